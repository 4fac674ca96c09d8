/-
  Layer 1: BeJoins.
-/
import Derived.Test.YtkfnicidoaikeaaLaw1
namespace Go.Proofs.Ytkfnicidoaikeaa
open Go.RowKit Go.WideShapes Go.ChangeShapes Go.ChangeAt

theorem putS_size (n w : Int) (w0 : 1 ≤ w) (w1 : w ≤ 8) : (bs (putS n w)).size = w.toNat := by rw [putS, if_pos ⟨w0, w1⟩, bs_size, putL_length]
theorem and_mask (n : Int) (n0 : 0 ≤ n) (n1 : n ≤ 18446744073709551615) (j : Nat) (hj : j ≤ 63) : bits .and .u64 n ((2 ^ j - 1 : Nat) : Int) = n % ((2 ^ j : Nat) : Int) := by
  obtain ⟨n, rfl⟩ := Int.eq_ofNat_of_zero_le n0
  have hp : 2 ^ j < 2 ^ 64 := Nat.pow_lt_pow_right (by omega) (by omega)
  have h64 : (2 : Nat) ^ 64 = 18446744073709551616 := by decide
  rw [(bits_nat .u64 64 (by decide) wraps_u64 n (2 ^ j - 1) (by omega) (by omega)).1, Nat.and_two_pow_sub_one_eq_mod]
  exact Int.natCast_emod _ _
theorem join_cat (n : Int) (n0 : 0 ≤ n) (j : Nat) (h1 : 1 ≤ j) (h7 : j ≤ 7) : bs (putS (n / ((256 ^ j : Nat) : Int)) ((8 - j : Nat) : Int)) ++ bs (putS n (j : Int)) = bs (putS n 8) := by
  obtain ⟨n, rfl⟩ := Int.eq_ofNat_of_zero_le n0
  have h := putL_add j (8 - j) n
  rw [show 8 - j + j = 8 by omega] at h
  rw [bs_append, putS, putS, putS, if_pos (by omega), if_pos (by omega), if_pos (by omega), show (8 : Int).toNat = 8 from rfl, Int.toNat_natCast, Int.toNat_natCast, h, Int.toNat_natCast]
  rw [show (((n : Int)) / ((256 ^ j : Nat) : Int)).toNat = n / 256 ^ j by rw [← Int.natCast_ediv, Int.toNat_natCast]]
theorem join_low (n : Int) (n0 : 0 ≤ n) (j : Nat) (h7 : j ≤ 7) : ((getN (last8 ((bs (putS n 8)).extract (8 - j) 8).data.toList) : Nat) : Int) = n % ((256 ^ j : Nat) : Int) := by
  obtain ⟨n, rfl⟩ := Int.eq_ofNat_of_zero_le n0
  have h := putL_add j (8 - j) n
  rw [show 8 - j + j = 8 by omega] at h
  rw [Lib.extract_data, bs_toList, putS, if_pos (by omega), show (8 : Int).toNat = 8 from rfl, Int.toNat_natCast, h, List.drop_append_of_le_length (by simp), List.drop_of_length_le (by simp), List.nil_append, List.take_of_length_le (by simp; omega), last8_short (by simp; omega), getN_putL]
  exact Int.natCast_emod _ _
theorem join_high (n : Int) (n0 : 0 ≤ n) (n1 : n ≤ 18446744073709551615) (j : Nat) (h7 : j ≤ 7) : ((getN (last8 ((bs (putS n 8)).extract 0 (8 - j)).data.toList) : Nat) : Int) = n / ((256 ^ j : Nat) : Int) := by
  obtain ⟨n, rfl⟩ := Int.eq_ofNat_of_zero_le n0
  have h := putL_add j (8 - j) n
  rw [show 8 - j + j = 8 by omega] at h
  have hm : n / 256 ^ j < 256 ^ (8 - j) := by
    rw [Nat.div_lt_iff_lt_mul (pow256 j), ← Nat.pow_add, show 8 - j + j = 8 by omega]
    have : (256 : Nat) ^ 8 = 18446744073709551616 := by decide
    omega
  rw [Lib.extract_data, bs_toList, putS, if_pos (by omega), show (8 : Int).toNat = 8 from rfl, Int.toNat_natCast, h, List.drop_zero, Nat.sub_zero, List.take_append_of_le_length (by simp), List.take_of_length_le (by simp), last8_short (by simp), getN_putL, Nat.mod_eq_of_lt hm]
  exact Int.natCast_ediv _ _

/- GENERATED -/

set_option maxHeartbeats 1000000 in
theorem beJoins_walk1 (n : Int) (n0 : 0 ≤ n) (n1 : n ≤ 18446744073709551615) (k : Int) (k0 : 0 ≤ k) (k1 : k ≤ 255) (w : World) (hk : k % 7 = 0) :
    Calls Try.prog 7 #[.int .u64 n, .int .u8 k] w fun e w' => e = .returned (.bool true) ∧ Below w.heap.size w w' := by
  have s1 : ∀ m, (bs (putS m 1)).size = 1 := fun m => putS_size m 1 (by omega) (by omega)
  have s7 : ∀ m, (bs (putS m 7)).size = 7 := fun m => putS_size m 7 (by omega) (by omega)
  have s8 : ∀ m, (bs (putS m 8)).size = 8 := fun m => putS_size m 8 (by omega) (by omega)
  have hc : bs (putS (n / 256) 7) ++ bs (putS n 1) = bs (putS n 8) := join_cat n n0 1 (by omega) (by omega)
  have ha : bits .and .u64 n 255 = n % 256 := and_mask n n0 n1 8 (by omega)
  have w1 : IntKind.i64.wrap 7 = 7 := rfl
  have w2 : IntKind.i64.wrap 8 = 8 := rfl
  have w3 : IntKind.u64.wrap 256 = 256 := rfl
  have w4 : IntKind.u64.wrap 255 = 255 := rfl
  have G1 := hide (fun W : World => show Calls Try.prog 11 #[.string ((bs (putS n 8)).extract 7 8)] W fun e w' => e = .returned (.int .u64 (n % 256)) ∧ Below W.heap.size W w' by
    have h := get_any ((bs (putS n 8)).extract 7 8) (by simp; omega) W
    rw [show ((getN (last8 ((bs (putS n 8)).extract 7 8).data.toList) : Nat) : Int) = n % 256 from join_low n n0 1 (by omega)] at h
    exact h)
  have G2 := hide (fun W : World => show Calls Try.prog 11 #[.string ((bs (putS n 8)).extract 0 7)] W fun e w' => e = .returned (.int .u64 (n / 256)) ∧ Below W.heap.size W w' by
    have h := get_any ((bs (putS n 8)).extract 0 7) (by simp; omega) W
    rw [show ((getN (last8 ((bs (putS n 8)).extract 0 7).data.toList) : Nat) : Int) = n / 256 from join_high n n0 n1 1 (by omega)] at h
    exact h)
  go_enter Try.func7, Try.ntmps7
  go_wp2_with (first | (go_at_call 10; ((with_reducible refine (wakes1 _).mono ?_); rintro e w0 ⟨rfl, hb0⟩)) | (go_at_call 8; ((with_reducible refine (put_any _ (by omega) (by omega) _ _).mono ?_); rintro e w1 ⟨rfl, hb1⟩)) | (go_at_call 11; ((with_reducible refine (G1.out _).mono ?_); rintro e w3 ⟨rfl, hb3⟩)) | (go_at_call 11; ((with_reducible refine (G2.out _).mono ?_); rintro e w4 ⟨rfl, hb4⟩)))
  refine wp_region_any (by kernel_rfl) ?_
  try (change wpAny _ _ _ _ _ _ _ (World.drew _))
  refine wpAny_ready (rs := [0]) (by kernel_rfl) (by simp) ?_
  refine AllReady.cons rfl (fun K hK => ?_) AllReady.nil
  go_simp
  go_wp2_with (first | (go_at_call 10; ((with_reducible refine (wakes1 _).mono ?_); rintro e w0 ⟨rfl, hb0⟩)) | (go_at_call 8; ((with_reducible refine (put_any _ (by omega) (by omega) _ _).mono ?_); rintro e w1 ⟨rfl, hb1⟩)) | (go_at_call 11; ((with_reducible refine (G1.out _).mono ?_); rintro e w3 ⟨rfl, hb3⟩)) | (go_at_call 11; ((with_reducible refine (G2.out _).mono ?_); rintro e w4 ⟨rfl, hb4⟩)))
  try (refine hK _ _ ?_; clear hK K)
  refine wpAny_take (i := 1) (v := ?_) rfl (by kernel_rfl) (by kernel_rfl) (by kernel_rfl) (fun _ _ _ h => h) (Or.inl ⟨?_, ?_⟩) ?_
  rotate_left
  · kernel_rfl
  · intro w
    go_simp
    try with_reducible rfl
  refine wpAny_take (i := 2) (v := ?_) rfl (by kernel_rfl) (by kernel_rfl) (by kernel_rfl) (fun _ _ _ h => h) (Or.inl ⟨?_, ?_⟩) ?_
  rotate_left
  · kernel_rfl
  · intro w
    go_simp
    try with_reducible rfl
  refine wpAny_take (i := 3) (v := ?_) rfl (by kernel_rfl) (by kernel_rfl) (by kernel_rfl) (fun _ _ _ h => h) (Or.inl ⟨?_, ?_⟩) ?_
  rotate_left
  · kernel_rfl
  · intro w
    go_simp
    try with_reducible rfl
  refine wpAny_ready (rs := [4]) (by kernel_rfl) (by simp) ?_
  refine AllReady.cons rfl (fun K hK => ?_) AllReady.nil
  go_simp
  go_wp2_with (first | (go_at_call 10; ((with_reducible refine (wakes1 _).mono ?_); rintro e w0 ⟨rfl, hb0⟩)) | (go_at_call 8; ((with_reducible refine (put_any _ (by omega) (by omega) _ _).mono ?_); rintro e w1 ⟨rfl, hb1⟩)) | (go_at_call 11; ((with_reducible refine (G1.out _).mono ?_); rintro e w3 ⟨rfl, hb3⟩)) | (go_at_call 11; ((with_reducible refine (G2.out _).mono ?_); rintro e w4 ⟨rfl, hb4⟩)))
  try (refine hK _ _ ?_; clear hK K)
  refine wpAny_take (i := 5) (v := ?_) rfl (by kernel_rfl) (by kernel_rfl) (by kernel_rfl) (fun _ _ _ h => h) (Or.inl ⟨?_, ?_⟩) ?_
  rotate_left
  · kernel_rfl
  · intro w
    go_simp
    try with_reducible rfl
  refine wpAny_take (i := 6) (v := ?_) rfl (by kernel_rfl) (by kernel_rfl) (by kernel_rfl) (fun _ _ _ h => h) (Or.inl ⟨?_, ?_⟩) ?_
  rotate_left
  · kernel_rfl
  · intro w
    go_simp
    try with_reducible rfl
  refine wpAny_take (i := 7) (v := ?_) rfl (by kernel_rfl) (by kernel_rfl) (by kernel_rfl) (fun _ _ _ h => h) (Or.inl ⟨?_, ?_⟩) ?_
  rotate_left
  · kernel_rfl
  · intro w
    go_simp
    try with_reducible rfl
  refine wpAny_take (i := 8) (v := ?_) rfl (by kernel_rfl) (by kernel_rfl) (by kernel_rfl) (fun _ _ _ h => h) (Or.inl ⟨?_, ?_⟩) ?_
  rotate_left
  · kernel_rfl
  · intro w
    go_simp
    try with_reducible rfl
  refine wpAny_take (i := 9) (v := ?_) rfl (by kernel_rfl) (by kernel_rfl) (by kernel_rfl) (fun _ _ _ h => h) (Or.inl ⟨?_, ?_⟩) ?_
  rotate_left
  · kernel_rfl
  · intro w
    go_simp
    try with_reducible rfl
  refine wpAny_take (i := 10) (v := ?_) rfl (by kernel_rfl) (by kernel_rfl) (by kernel_rfl) (fun _ _ _ h => h) (Or.inl ⟨?_, ?_⟩) ?_
  rotate_left
  · kernel_rfl
  · intro w
    go_simp
    try with_reducible rfl
  refine wpAny_take (i := 11) (v := ?_) rfl (by kernel_rfl) (by kernel_rfl) (by kernel_rfl) (fun _ _ _ h => h) (Or.inl ⟨?_, ?_⟩) ?_
  rotate_left
  · kernel_rfl
  · intro w
    go_simp
    try with_reducible rfl
  refine wpAny_take (i := 13) (v := ?_) rfl (by kernel_rfl) (by kernel_rfl) (by kernel_rfl) (fun _ _ _ h => h) (Or.inl ⟨?_, ?_⟩) ?_
  rotate_left
  · kernel_rfl
  · intro w
    go_simp
    try with_reducible rfl
  refine wpAny_take (i := 14) (v := ?_) rfl (by kernel_rfl) (by kernel_rfl) (by kernel_rfl) (fun _ _ _ h => h) (Or.inl ⟨?_, ?_⟩) ?_
  rotate_left
  · kernel_rfl
  · intro w
    go_simp
    try with_reducible rfl
  refine wpAny_take (i := 15) (v := ?_) rfl (by kernel_rfl) (by kernel_rfl) (by kernel_rfl) (fun _ _ _ h => h) (Or.inl ⟨?_, ?_⟩) ?_
  rotate_left
  · kernel_rfl
  · intro w
    go_simp
    try with_reducible rfl
  refine wpAny_take (i := 16) (v := ?_) rfl (by kernel_rfl) (by kernel_rfl) (by kernel_rfl) (fun _ _ _ h => h) (Or.inl ⟨?_, ?_⟩) ?_
  rotate_left
  · kernel_rfl
  · intro w
    go_simp
    try with_reducible rfl
  refine wpAny_take (i := 17) (v := ?_) rfl (by kernel_rfl) (by kernel_rfl) (by kernel_rfl) (fun _ _ _ h => h) (Or.inl ⟨?_, ?_⟩) ?_
  rotate_left
  · kernel_rfl
  · intro w
    go_simp
    try with_reducible rfl
  refine wpAny_take (i := 18) (v := ?_) rfl (by kernel_rfl) (by kernel_rfl) (by kernel_rfl) (fun _ _ _ h => h) (Or.inl ⟨?_, ?_⟩) ?_
  rotate_left
  · kernel_rfl
  · intro w
    go_simp
    try with_reducible rfl
  refine wpAny_ready (rs := [12]) (by kernel_rfl) (by simp) ?_
  refine AllReady.cons rfl (fun K hK => ?_) AllReady.nil
  go_simp
  go_wp2_with (first | (go_at_call 10; ((with_reducible refine (wakes1 _).mono ?_); rintro e w0 ⟨rfl, hb0⟩)) | (go_at_call 8; ((with_reducible refine (put_any _ (by omega) (by omega) _ _).mono ?_); rintro e w1 ⟨rfl, hb1⟩)) | (go_at_call 11; ((with_reducible refine (G1.out _).mono ?_); rintro e w3 ⟨rfl, hb3⟩)) | (go_at_call 11; ((with_reducible refine (G2.out _).mono ?_); rintro e w4 ⟨rfl, hb4⟩)))
  try (refine hK _ _ ?_; clear hK K)
  refine wpAny_take (i := 19) (v := ?_) rfl (by kernel_rfl) (by kernel_rfl) (by kernel_rfl) (fun _ _ _ h => h) (Or.inl ⟨?_, ?_⟩) ?_
  rotate_left
  · kernel_rfl
  · intro w
    go_simp
    try with_reducible rfl
  refine wpAny_take (i := 20) (v := ?_) rfl (by kernel_rfl) (by kernel_rfl) (by kernel_rfl) (fun _ _ _ h => h) (Or.inl ⟨?_, ?_⟩) ?_
  rotate_left
  · kernel_rfl
  · intro w
    go_simp
    try with_reducible rfl
  refine wpAny_take (i := 21) (v := ?_) rfl (by kernel_rfl) (by kernel_rfl) (by kernel_rfl) (fun _ _ _ h => h) (Or.inl ⟨?_, ?_⟩) ?_
  rotate_left
  · kernel_rfl
  · intro w
    go_simp
    try with_reducible rfl
  refine wpAny_take (i := 22) (v := ?_) rfl (by kernel_rfl) (by kernel_rfl) (by kernel_rfl) (fun _ _ _ h => h) (Or.inl ⟨?_, ?_⟩) ?_
  rotate_left
  · kernel_rfl
  · intro w
    go_simp
    try with_reducible rfl
  refine wpAny_take (i := 23) (v := ?_) rfl (by kernel_rfl) (by kernel_rfl) (by kernel_rfl) (fun _ _ _ h => h) (Or.inl ⟨?_, ?_⟩) ?_
  rotate_left
  · kernel_rfl
  · intro w
    go_simp
    try with_reducible rfl
  refine wpAny_take (i := 24) (v := ?_) rfl (by kernel_rfl) (by kernel_rfl) (by kernel_rfl) (fun _ _ _ h => h) (Or.inl ⟨?_, ?_⟩) ?_
  rotate_left
  · kernel_rfl
  · intro w
    go_simp
    try with_reducible rfl
  refine wpAny_take (i := 25) (v := ?_) rfl (by kernel_rfl) (by kernel_rfl) (by kernel_rfl) (fun _ _ _ h => h) (Or.inl ⟨?_, ?_⟩) ?_
  rotate_left
  · kernel_rfl
  · intro w
    go_simp
    try with_reducible rfl
  refine wpAny_take (i := 27) (v := ?_) rfl (by kernel_rfl) (by kernel_rfl) (by kernel_rfl) (fun _ _ _ h => h) (Or.inl ⟨?_, ?_⟩) ?_
  rotate_left
  · kernel_rfl
  · intro w
    go_simp
    try with_reducible rfl
  refine wpAny_take (i := 28) (v := ?_) rfl (by kernel_rfl) (by kernel_rfl) (by kernel_rfl) (fun _ _ _ h => h) (Or.inl ⟨?_, ?_⟩) ?_
  rotate_left
  · kernel_rfl
  · intro w
    go_simp
    try with_reducible rfl
  refine wpAny_take (i := 29) (v := ?_) rfl (by kernel_rfl) (by kernel_rfl) (by kernel_rfl) (fun _ _ _ h => h) (Or.inl ⟨?_, ?_⟩) ?_
  rotate_left
  · kernel_rfl
  · intro w
    go_simp
    try with_reducible rfl
  refine wpAny_take (i := 30) (v := ?_) rfl (by kernel_rfl) (by kernel_rfl) (by kernel_rfl) (fun _ _ _ h => h) (Or.inl ⟨?_, ?_⟩) ?_
  rotate_left
  · kernel_rfl
  · intro w
    go_simp
    try with_reducible rfl
  refine wpAny_ready (rs := [26]) (by kernel_rfl) (by simp) ?_
  refine AllReady.cons rfl (fun K hK => ?_) AllReady.nil
  go_simp
  go_wp2_with (first | (go_at_call 10; ((with_reducible refine (wakes1 _).mono ?_); rintro e w0 ⟨rfl, hb0⟩)) | (go_at_call 8; ((with_reducible refine (put_any _ (by omega) (by omega) _ _).mono ?_); rintro e w1 ⟨rfl, hb1⟩)) | (go_at_call 11; ((with_reducible refine (G1.out _).mono ?_); rintro e w3 ⟨rfl, hb3⟩)) | (go_at_call 11; ((with_reducible refine (G2.out _).mono ?_); rintro e w4 ⟨rfl, hb4⟩)))
  try (refine hK _ _ ?_; clear hK K)
  refine wpAny_take (i := 31) (v := ?_) rfl (by kernel_rfl) (by kernel_rfl) (by kernel_rfl) (fun _ _ _ h => h) (Or.inl ⟨?_, ?_⟩) ?_
  rotate_left
  · kernel_rfl
  · intro w
    go_simp
    try with_reducible rfl
  refine wpAny_take (i := 32) (v := ?_) rfl (by kernel_rfl) (by kernel_rfl) (by kernel_rfl) (fun _ _ _ h => h) (Or.inl ⟨?_, ?_⟩) ?_
  rotate_left
  · kernel_rfl
  · intro w
    go_simp
    try with_reducible rfl
  refine wpAny_take (i := 33) (v := ?_) rfl (by kernel_rfl) (by kernel_rfl) (by kernel_rfl) (fun _ _ _ h => h) (Or.inl ⟨?_, ?_⟩) ?_
  rotate_left
  · kernel_rfl
  · intro w
    go_simp
    try with_reducible rfl
  refine wpAny_done (by kernel_rfl) ?_ _
  go_wp2
  go_ret
  exact ⟨rfl, by repeat (first | (with_reducible assumption) | (refine below_trans (by assumption) ?_) | (refine below_drew ?_))⟩

set_option maxHeartbeats 1000000 in
theorem beJoins_walk2 (n : Int) (n0 : 0 ≤ n) (n1 : n ≤ 18446744073709551615) (k : Int) (k0 : 0 ≤ k) (k1 : k ≤ 255) (w : World) (hk : k % 7 = 1) :
    Calls Try.prog 7 #[.int .u64 n, .int .u8 k] w fun e w' => e = .returned (.bool true) ∧ Below w.heap.size w w' := by
  have s1 : ∀ m, (bs (putS m 2)).size = 2 := fun m => putS_size m 2 (by omega) (by omega)
  have s7 : ∀ m, (bs (putS m 6)).size = 6 := fun m => putS_size m 6 (by omega) (by omega)
  have s8 : ∀ m, (bs (putS m 8)).size = 8 := fun m => putS_size m 8 (by omega) (by omega)
  have hc : bs (putS (n / 65536) 6) ++ bs (putS n 2) = bs (putS n 8) := join_cat n n0 2 (by omega) (by omega)
  have ha : bits .and .u64 n 65535 = n % 65536 := and_mask n n0 n1 16 (by omega)
  have w1 : IntKind.i64.wrap 6 = 6 := rfl
  have w2 : IntKind.i64.wrap 16 = 16 := rfl
  have w3 : IntKind.u64.wrap 65536 = 65536 := rfl
  have w4 : IntKind.u64.wrap 65535 = 65535 := rfl
  have G1 := hide (fun W : World => show Calls Try.prog 11 #[.string ((bs (putS n 8)).extract 6 8)] W fun e w' => e = .returned (.int .u64 (n % 65536)) ∧ Below W.heap.size W w' by
    have h := get_any ((bs (putS n 8)).extract 6 8) (by simp; omega) W
    rw [show ((getN (last8 ((bs (putS n 8)).extract 6 8).data.toList) : Nat) : Int) = n % 65536 from join_low n n0 2 (by omega)] at h
    exact h)
  have G2 := hide (fun W : World => show Calls Try.prog 11 #[.string ((bs (putS n 8)).extract 0 6)] W fun e w' => e = .returned (.int .u64 (n / 65536)) ∧ Below W.heap.size W w' by
    have h := get_any ((bs (putS n 8)).extract 0 6) (by simp; omega) W
    rw [show ((getN (last8 ((bs (putS n 8)).extract 0 6).data.toList) : Nat) : Int) = n / 65536 from join_high n n0 n1 2 (by omega)] at h
    exact h)
  go_enter Try.func7, Try.ntmps7
  go_wp2_with (first | (go_at_call 10; ((with_reducible refine (wakes1 _).mono ?_); rintro e w0 ⟨rfl, hb0⟩)) | (go_at_call 8; ((with_reducible refine (put_any _ (by omega) (by omega) _ _).mono ?_); rintro e w1 ⟨rfl, hb1⟩)) | (go_at_call 11; ((with_reducible refine (G1.out _).mono ?_); rintro e w3 ⟨rfl, hb3⟩)) | (go_at_call 11; ((with_reducible refine (G2.out _).mono ?_); rintro e w4 ⟨rfl, hb4⟩)))
  refine wp_region_any (by kernel_rfl) ?_
  try (change wpAny _ _ _ _ _ _ _ (World.drew _))
  refine wpAny_ready (rs := [0]) (by kernel_rfl) (by simp) ?_
  refine AllReady.cons rfl (fun K hK => ?_) AllReady.nil
  go_simp
  go_wp2_with (first | (go_at_call 10; ((with_reducible refine (wakes1 _).mono ?_); rintro e w0 ⟨rfl, hb0⟩)) | (go_at_call 8; ((with_reducible refine (put_any _ (by omega) (by omega) _ _).mono ?_); rintro e w1 ⟨rfl, hb1⟩)) | (go_at_call 11; ((with_reducible refine (G1.out _).mono ?_); rintro e w3 ⟨rfl, hb3⟩)) | (go_at_call 11; ((with_reducible refine (G2.out _).mono ?_); rintro e w4 ⟨rfl, hb4⟩)))
  try (refine hK _ _ ?_; clear hK K)
  refine wpAny_take (i := 1) (v := ?_) rfl (by kernel_rfl) (by kernel_rfl) (by kernel_rfl) (fun _ _ _ h => h) (Or.inl ⟨?_, ?_⟩) ?_
  rotate_left
  · kernel_rfl
  · intro w
    go_simp
    try with_reducible rfl
  refine wpAny_take (i := 2) (v := ?_) rfl (by kernel_rfl) (by kernel_rfl) (by kernel_rfl) (fun _ _ _ h => h) (Or.inl ⟨?_, ?_⟩) ?_
  rotate_left
  · kernel_rfl
  · intro w
    go_simp
    try with_reducible rfl
  refine wpAny_take (i := 3) (v := ?_) rfl (by kernel_rfl) (by kernel_rfl) (by kernel_rfl) (fun _ _ _ h => h) (Or.inl ⟨?_, ?_⟩) ?_
  rotate_left
  · kernel_rfl
  · intro w
    go_simp
    try with_reducible rfl
  refine wpAny_ready (rs := [4]) (by kernel_rfl) (by simp) ?_
  refine AllReady.cons rfl (fun K hK => ?_) AllReady.nil
  go_simp
  go_wp2_with (first | (go_at_call 10; ((with_reducible refine (wakes1 _).mono ?_); rintro e w0 ⟨rfl, hb0⟩)) | (go_at_call 8; ((with_reducible refine (put_any _ (by omega) (by omega) _ _).mono ?_); rintro e w1 ⟨rfl, hb1⟩)) | (go_at_call 11; ((with_reducible refine (G1.out _).mono ?_); rintro e w3 ⟨rfl, hb3⟩)) | (go_at_call 11; ((with_reducible refine (G2.out _).mono ?_); rintro e w4 ⟨rfl, hb4⟩)))
  try (refine hK _ _ ?_; clear hK K)
  refine wpAny_take (i := 5) (v := ?_) rfl (by kernel_rfl) (by kernel_rfl) (by kernel_rfl) (fun _ _ _ h => h) (Or.inl ⟨?_, ?_⟩) ?_
  rotate_left
  · kernel_rfl
  · intro w
    go_simp
    try with_reducible rfl
  refine wpAny_take (i := 6) (v := ?_) rfl (by kernel_rfl) (by kernel_rfl) (by kernel_rfl) (fun _ _ _ h => h) (Or.inl ⟨?_, ?_⟩) ?_
  rotate_left
  · kernel_rfl
  · intro w
    go_simp
    try with_reducible rfl
  refine wpAny_take (i := 7) (v := ?_) rfl (by kernel_rfl) (by kernel_rfl) (by kernel_rfl) (fun _ _ _ h => h) (Or.inl ⟨?_, ?_⟩) ?_
  rotate_left
  · kernel_rfl
  · intro w
    go_simp
    try with_reducible rfl
  refine wpAny_take (i := 8) (v := ?_) rfl (by kernel_rfl) (by kernel_rfl) (by kernel_rfl) (fun _ _ _ h => h) (Or.inl ⟨?_, ?_⟩) ?_
  rotate_left
  · kernel_rfl
  · intro w
    go_simp
    try with_reducible rfl
  refine wpAny_take (i := 9) (v := ?_) rfl (by kernel_rfl) (by kernel_rfl) (by kernel_rfl) (fun _ _ _ h => h) (Or.inl ⟨?_, ?_⟩) ?_
  rotate_left
  · kernel_rfl
  · intro w
    go_simp
    try with_reducible rfl
  refine wpAny_take (i := 10) (v := ?_) rfl (by kernel_rfl) (by kernel_rfl) (by kernel_rfl) (fun _ _ _ h => h) (Or.inl ⟨?_, ?_⟩) ?_
  rotate_left
  · kernel_rfl
  · intro w
    go_simp
    try with_reducible rfl
  refine wpAny_take (i := 11) (v := ?_) rfl (by kernel_rfl) (by kernel_rfl) (by kernel_rfl) (fun _ _ _ h => h) (Or.inl ⟨?_, ?_⟩) ?_
  rotate_left
  · kernel_rfl
  · intro w
    go_simp
    try with_reducible rfl
  refine wpAny_take (i := 13) (v := ?_) rfl (by kernel_rfl) (by kernel_rfl) (by kernel_rfl) (fun _ _ _ h => h) (Or.inl ⟨?_, ?_⟩) ?_
  rotate_left
  · kernel_rfl
  · intro w
    go_simp
    try with_reducible rfl
  refine wpAny_take (i := 14) (v := ?_) rfl (by kernel_rfl) (by kernel_rfl) (by kernel_rfl) (fun _ _ _ h => h) (Or.inl ⟨?_, ?_⟩) ?_
  rotate_left
  · kernel_rfl
  · intro w
    go_simp
    try with_reducible rfl
  refine wpAny_take (i := 15) (v := ?_) rfl (by kernel_rfl) (by kernel_rfl) (by kernel_rfl) (fun _ _ _ h => h) (Or.inl ⟨?_, ?_⟩) ?_
  rotate_left
  · kernel_rfl
  · intro w
    go_simp
    try with_reducible rfl
  refine wpAny_take (i := 16) (v := ?_) rfl (by kernel_rfl) (by kernel_rfl) (by kernel_rfl) (fun _ _ _ h => h) (Or.inl ⟨?_, ?_⟩) ?_
  rotate_left
  · kernel_rfl
  · intro w
    go_simp
    try with_reducible rfl
  refine wpAny_take (i := 17) (v := ?_) rfl (by kernel_rfl) (by kernel_rfl) (by kernel_rfl) (fun _ _ _ h => h) (Or.inl ⟨?_, ?_⟩) ?_
  rotate_left
  · kernel_rfl
  · intro w
    go_simp
    try with_reducible rfl
  refine wpAny_take (i := 18) (v := ?_) rfl (by kernel_rfl) (by kernel_rfl) (by kernel_rfl) (fun _ _ _ h => h) (Or.inl ⟨?_, ?_⟩) ?_
  rotate_left
  · kernel_rfl
  · intro w
    go_simp
    try with_reducible rfl
  refine wpAny_ready (rs := [12]) (by kernel_rfl) (by simp) ?_
  refine AllReady.cons rfl (fun K hK => ?_) AllReady.nil
  go_simp
  go_wp2_with (first | (go_at_call 10; ((with_reducible refine (wakes1 _).mono ?_); rintro e w0 ⟨rfl, hb0⟩)) | (go_at_call 8; ((with_reducible refine (put_any _ (by omega) (by omega) _ _).mono ?_); rintro e w1 ⟨rfl, hb1⟩)) | (go_at_call 11; ((with_reducible refine (G1.out _).mono ?_); rintro e w3 ⟨rfl, hb3⟩)) | (go_at_call 11; ((with_reducible refine (G2.out _).mono ?_); rintro e w4 ⟨rfl, hb4⟩)))
  try (refine hK _ _ ?_; clear hK K)
  refine wpAny_take (i := 19) (v := ?_) rfl (by kernel_rfl) (by kernel_rfl) (by kernel_rfl) (fun _ _ _ h => h) (Or.inl ⟨?_, ?_⟩) ?_
  rotate_left
  · kernel_rfl
  · intro w
    go_simp
    try with_reducible rfl
  refine wpAny_take (i := 20) (v := ?_) rfl (by kernel_rfl) (by kernel_rfl) (by kernel_rfl) (fun _ _ _ h => h) (Or.inl ⟨?_, ?_⟩) ?_
  rotate_left
  · kernel_rfl
  · intro w
    go_simp
    try with_reducible rfl
  refine wpAny_take (i := 21) (v := ?_) rfl (by kernel_rfl) (by kernel_rfl) (by kernel_rfl) (fun _ _ _ h => h) (Or.inl ⟨?_, ?_⟩) ?_
  rotate_left
  · kernel_rfl
  · intro w
    go_simp
    try with_reducible rfl
  refine wpAny_take (i := 22) (v := ?_) rfl (by kernel_rfl) (by kernel_rfl) (by kernel_rfl) (fun _ _ _ h => h) (Or.inl ⟨?_, ?_⟩) ?_
  rotate_left
  · kernel_rfl
  · intro w
    go_simp
    try with_reducible rfl
  refine wpAny_take (i := 23) (v := ?_) rfl (by kernel_rfl) (by kernel_rfl) (by kernel_rfl) (fun _ _ _ h => h) (Or.inl ⟨?_, ?_⟩) ?_
  rotate_left
  · kernel_rfl
  · intro w
    go_simp
    try with_reducible rfl
  refine wpAny_take (i := 24) (v := ?_) rfl (by kernel_rfl) (by kernel_rfl) (by kernel_rfl) (fun _ _ _ h => h) (Or.inl ⟨?_, ?_⟩) ?_
  rotate_left
  · kernel_rfl
  · intro w
    go_simp
    try with_reducible rfl
  refine wpAny_take (i := 25) (v := ?_) rfl (by kernel_rfl) (by kernel_rfl) (by kernel_rfl) (fun _ _ _ h => h) (Or.inl ⟨?_, ?_⟩) ?_
  rotate_left
  · kernel_rfl
  · intro w
    go_simp
    try with_reducible rfl
  refine wpAny_take (i := 27) (v := ?_) rfl (by kernel_rfl) (by kernel_rfl) (by kernel_rfl) (fun _ _ _ h => h) (Or.inl ⟨?_, ?_⟩) ?_
  rotate_left
  · kernel_rfl
  · intro w
    go_simp
    try with_reducible rfl
  refine wpAny_take (i := 28) (v := ?_) rfl (by kernel_rfl) (by kernel_rfl) (by kernel_rfl) (fun _ _ _ h => h) (Or.inl ⟨?_, ?_⟩) ?_
  rotate_left
  · kernel_rfl
  · intro w
    go_simp
    try with_reducible rfl
  refine wpAny_take (i := 29) (v := ?_) rfl (by kernel_rfl) (by kernel_rfl) (by kernel_rfl) (fun _ _ _ h => h) (Or.inl ⟨?_, ?_⟩) ?_
  rotate_left
  · kernel_rfl
  · intro w
    go_simp
    try with_reducible rfl
  refine wpAny_take (i := 30) (v := ?_) rfl (by kernel_rfl) (by kernel_rfl) (by kernel_rfl) (fun _ _ _ h => h) (Or.inl ⟨?_, ?_⟩) ?_
  rotate_left
  · kernel_rfl
  · intro w
    go_simp
    try with_reducible rfl
  refine wpAny_ready (rs := [26]) (by kernel_rfl) (by simp) ?_
  refine AllReady.cons rfl (fun K hK => ?_) AllReady.nil
  go_simp
  go_wp2_with (first | (go_at_call 10; ((with_reducible refine (wakes1 _).mono ?_); rintro e w0 ⟨rfl, hb0⟩)) | (go_at_call 8; ((with_reducible refine (put_any _ (by omega) (by omega) _ _).mono ?_); rintro e w1 ⟨rfl, hb1⟩)) | (go_at_call 11; ((with_reducible refine (G1.out _).mono ?_); rintro e w3 ⟨rfl, hb3⟩)) | (go_at_call 11; ((with_reducible refine (G2.out _).mono ?_); rintro e w4 ⟨rfl, hb4⟩)))
  try (refine hK _ _ ?_; clear hK K)
  refine wpAny_take (i := 31) (v := ?_) rfl (by kernel_rfl) (by kernel_rfl) (by kernel_rfl) (fun _ _ _ h => h) (Or.inl ⟨?_, ?_⟩) ?_
  rotate_left
  · kernel_rfl
  · intro w
    go_simp
    try with_reducible rfl
  refine wpAny_take (i := 32) (v := ?_) rfl (by kernel_rfl) (by kernel_rfl) (by kernel_rfl) (fun _ _ _ h => h) (Or.inl ⟨?_, ?_⟩) ?_
  rotate_left
  · kernel_rfl
  · intro w
    go_simp
    try with_reducible rfl
  refine wpAny_take (i := 33) (v := ?_) rfl (by kernel_rfl) (by kernel_rfl) (by kernel_rfl) (fun _ _ _ h => h) (Or.inl ⟨?_, ?_⟩) ?_
  rotate_left
  · kernel_rfl
  · intro w
    go_simp
    try with_reducible rfl
  refine wpAny_done (by kernel_rfl) ?_ _
  go_wp2
  go_ret
  exact ⟨rfl, by repeat (first | (with_reducible assumption) | (refine below_trans (by assumption) ?_) | (refine below_drew ?_))⟩

set_option maxHeartbeats 1000000 in
theorem beJoins_walk3 (n : Int) (n0 : 0 ≤ n) (n1 : n ≤ 18446744073709551615) (k : Int) (k0 : 0 ≤ k) (k1 : k ≤ 255) (w : World) (hk : k % 7 = 2) :
    Calls Try.prog 7 #[.int .u64 n, .int .u8 k] w fun e w' => e = .returned (.bool true) ∧ Below w.heap.size w w' := by
  have s1 : ∀ m, (bs (putS m 3)).size = 3 := fun m => putS_size m 3 (by omega) (by omega)
  have s7 : ∀ m, (bs (putS m 5)).size = 5 := fun m => putS_size m 5 (by omega) (by omega)
  have s8 : ∀ m, (bs (putS m 8)).size = 8 := fun m => putS_size m 8 (by omega) (by omega)
  have hc : bs (putS (n / 16777216) 5) ++ bs (putS n 3) = bs (putS n 8) := join_cat n n0 3 (by omega) (by omega)
  have ha : bits .and .u64 n 16777215 = n % 16777216 := and_mask n n0 n1 24 (by omega)
  have w1 : IntKind.i64.wrap 5 = 5 := rfl
  have w2 : IntKind.i64.wrap 24 = 24 := rfl
  have w3 : IntKind.u64.wrap 16777216 = 16777216 := rfl
  have w4 : IntKind.u64.wrap 16777215 = 16777215 := rfl
  have G1 := hide (fun W : World => show Calls Try.prog 11 #[.string ((bs (putS n 8)).extract 5 8)] W fun e w' => e = .returned (.int .u64 (n % 16777216)) ∧ Below W.heap.size W w' by
    have h := get_any ((bs (putS n 8)).extract 5 8) (by simp; omega) W
    rw [show ((getN (last8 ((bs (putS n 8)).extract 5 8).data.toList) : Nat) : Int) = n % 16777216 from join_low n n0 3 (by omega)] at h
    exact h)
  have G2 := hide (fun W : World => show Calls Try.prog 11 #[.string ((bs (putS n 8)).extract 0 5)] W fun e w' => e = .returned (.int .u64 (n / 16777216)) ∧ Below W.heap.size W w' by
    have h := get_any ((bs (putS n 8)).extract 0 5) (by simp; omega) W
    rw [show ((getN (last8 ((bs (putS n 8)).extract 0 5).data.toList) : Nat) : Int) = n / 16777216 from join_high n n0 n1 3 (by omega)] at h
    exact h)
  go_enter Try.func7, Try.ntmps7
  go_wp2_with (first | (go_at_call 10; ((with_reducible refine (wakes1 _).mono ?_); rintro e w0 ⟨rfl, hb0⟩)) | (go_at_call 8; ((with_reducible refine (put_any _ (by omega) (by omega) _ _).mono ?_); rintro e w1 ⟨rfl, hb1⟩)) | (go_at_call 11; ((with_reducible refine (G1.out _).mono ?_); rintro e w3 ⟨rfl, hb3⟩)) | (go_at_call 11; ((with_reducible refine (G2.out _).mono ?_); rintro e w4 ⟨rfl, hb4⟩)))
  refine wp_region_any (by kernel_rfl) ?_
  try (change wpAny _ _ _ _ _ _ _ (World.drew _))
  refine wpAny_ready (rs := [0]) (by kernel_rfl) (by simp) ?_
  refine AllReady.cons rfl (fun K hK => ?_) AllReady.nil
  go_simp
  go_wp2_with (first | (go_at_call 10; ((with_reducible refine (wakes1 _).mono ?_); rintro e w0 ⟨rfl, hb0⟩)) | (go_at_call 8; ((with_reducible refine (put_any _ (by omega) (by omega) _ _).mono ?_); rintro e w1 ⟨rfl, hb1⟩)) | (go_at_call 11; ((with_reducible refine (G1.out _).mono ?_); rintro e w3 ⟨rfl, hb3⟩)) | (go_at_call 11; ((with_reducible refine (G2.out _).mono ?_); rintro e w4 ⟨rfl, hb4⟩)))
  try (refine hK _ _ ?_; clear hK K)
  refine wpAny_take (i := 1) (v := ?_) rfl (by kernel_rfl) (by kernel_rfl) (by kernel_rfl) (fun _ _ _ h => h) (Or.inl ⟨?_, ?_⟩) ?_
  rotate_left
  · kernel_rfl
  · intro w
    go_simp
    try with_reducible rfl
  refine wpAny_take (i := 2) (v := ?_) rfl (by kernel_rfl) (by kernel_rfl) (by kernel_rfl) (fun _ _ _ h => h) (Or.inl ⟨?_, ?_⟩) ?_
  rotate_left
  · kernel_rfl
  · intro w
    go_simp
    try with_reducible rfl
  refine wpAny_take (i := 3) (v := ?_) rfl (by kernel_rfl) (by kernel_rfl) (by kernel_rfl) (fun _ _ _ h => h) (Or.inl ⟨?_, ?_⟩) ?_
  rotate_left
  · kernel_rfl
  · intro w
    go_simp
    try with_reducible rfl
  refine wpAny_ready (rs := [4]) (by kernel_rfl) (by simp) ?_
  refine AllReady.cons rfl (fun K hK => ?_) AllReady.nil
  go_simp
  go_wp2_with (first | (go_at_call 10; ((with_reducible refine (wakes1 _).mono ?_); rintro e w0 ⟨rfl, hb0⟩)) | (go_at_call 8; ((with_reducible refine (put_any _ (by omega) (by omega) _ _).mono ?_); rintro e w1 ⟨rfl, hb1⟩)) | (go_at_call 11; ((with_reducible refine (G1.out _).mono ?_); rintro e w3 ⟨rfl, hb3⟩)) | (go_at_call 11; ((with_reducible refine (G2.out _).mono ?_); rintro e w4 ⟨rfl, hb4⟩)))
  try (refine hK _ _ ?_; clear hK K)
  refine wpAny_take (i := 5) (v := ?_) rfl (by kernel_rfl) (by kernel_rfl) (by kernel_rfl) (fun _ _ _ h => h) (Or.inl ⟨?_, ?_⟩) ?_
  rotate_left
  · kernel_rfl
  · intro w
    go_simp
    try with_reducible rfl
  refine wpAny_take (i := 6) (v := ?_) rfl (by kernel_rfl) (by kernel_rfl) (by kernel_rfl) (fun _ _ _ h => h) (Or.inl ⟨?_, ?_⟩) ?_
  rotate_left
  · kernel_rfl
  · intro w
    go_simp
    try with_reducible rfl
  refine wpAny_take (i := 7) (v := ?_) rfl (by kernel_rfl) (by kernel_rfl) (by kernel_rfl) (fun _ _ _ h => h) (Or.inl ⟨?_, ?_⟩) ?_
  rotate_left
  · kernel_rfl
  · intro w
    go_simp
    try with_reducible rfl
  refine wpAny_take (i := 8) (v := ?_) rfl (by kernel_rfl) (by kernel_rfl) (by kernel_rfl) (fun _ _ _ h => h) (Or.inl ⟨?_, ?_⟩) ?_
  rotate_left
  · kernel_rfl
  · intro w
    go_simp
    try with_reducible rfl
  refine wpAny_take (i := 9) (v := ?_) rfl (by kernel_rfl) (by kernel_rfl) (by kernel_rfl) (fun _ _ _ h => h) (Or.inl ⟨?_, ?_⟩) ?_
  rotate_left
  · kernel_rfl
  · intro w
    go_simp
    try with_reducible rfl
  refine wpAny_take (i := 10) (v := ?_) rfl (by kernel_rfl) (by kernel_rfl) (by kernel_rfl) (fun _ _ _ h => h) (Or.inl ⟨?_, ?_⟩) ?_
  rotate_left
  · kernel_rfl
  · intro w
    go_simp
    try with_reducible rfl
  refine wpAny_take (i := 11) (v := ?_) rfl (by kernel_rfl) (by kernel_rfl) (by kernel_rfl) (fun _ _ _ h => h) (Or.inl ⟨?_, ?_⟩) ?_
  rotate_left
  · kernel_rfl
  · intro w
    go_simp
    try with_reducible rfl
  refine wpAny_take (i := 13) (v := ?_) rfl (by kernel_rfl) (by kernel_rfl) (by kernel_rfl) (fun _ _ _ h => h) (Or.inl ⟨?_, ?_⟩) ?_
  rotate_left
  · kernel_rfl
  · intro w
    go_simp
    try with_reducible rfl
  refine wpAny_take (i := 14) (v := ?_) rfl (by kernel_rfl) (by kernel_rfl) (by kernel_rfl) (fun _ _ _ h => h) (Or.inl ⟨?_, ?_⟩) ?_
  rotate_left
  · kernel_rfl
  · intro w
    go_simp
    try with_reducible rfl
  refine wpAny_take (i := 15) (v := ?_) rfl (by kernel_rfl) (by kernel_rfl) (by kernel_rfl) (fun _ _ _ h => h) (Or.inl ⟨?_, ?_⟩) ?_
  rotate_left
  · kernel_rfl
  · intro w
    go_simp
    try with_reducible rfl
  refine wpAny_take (i := 16) (v := ?_) rfl (by kernel_rfl) (by kernel_rfl) (by kernel_rfl) (fun _ _ _ h => h) (Or.inl ⟨?_, ?_⟩) ?_
  rotate_left
  · kernel_rfl
  · intro w
    go_simp
    try with_reducible rfl
  refine wpAny_take (i := 17) (v := ?_) rfl (by kernel_rfl) (by kernel_rfl) (by kernel_rfl) (fun _ _ _ h => h) (Or.inl ⟨?_, ?_⟩) ?_
  rotate_left
  · kernel_rfl
  · intro w
    go_simp
    try with_reducible rfl
  refine wpAny_take (i := 18) (v := ?_) rfl (by kernel_rfl) (by kernel_rfl) (by kernel_rfl) (fun _ _ _ h => h) (Or.inl ⟨?_, ?_⟩) ?_
  rotate_left
  · kernel_rfl
  · intro w
    go_simp
    try with_reducible rfl
  refine wpAny_ready (rs := [12]) (by kernel_rfl) (by simp) ?_
  refine AllReady.cons rfl (fun K hK => ?_) AllReady.nil
  go_simp
  go_wp2_with (first | (go_at_call 10; ((with_reducible refine (wakes1 _).mono ?_); rintro e w0 ⟨rfl, hb0⟩)) | (go_at_call 8; ((with_reducible refine (put_any _ (by omega) (by omega) _ _).mono ?_); rintro e w1 ⟨rfl, hb1⟩)) | (go_at_call 11; ((with_reducible refine (G1.out _).mono ?_); rintro e w3 ⟨rfl, hb3⟩)) | (go_at_call 11; ((with_reducible refine (G2.out _).mono ?_); rintro e w4 ⟨rfl, hb4⟩)))
  try (refine hK _ _ ?_; clear hK K)
  refine wpAny_take (i := 19) (v := ?_) rfl (by kernel_rfl) (by kernel_rfl) (by kernel_rfl) (fun _ _ _ h => h) (Or.inl ⟨?_, ?_⟩) ?_
  rotate_left
  · kernel_rfl
  · intro w
    go_simp
    try with_reducible rfl
  refine wpAny_take (i := 20) (v := ?_) rfl (by kernel_rfl) (by kernel_rfl) (by kernel_rfl) (fun _ _ _ h => h) (Or.inl ⟨?_, ?_⟩) ?_
  rotate_left
  · kernel_rfl
  · intro w
    go_simp
    try with_reducible rfl
  refine wpAny_take (i := 21) (v := ?_) rfl (by kernel_rfl) (by kernel_rfl) (by kernel_rfl) (fun _ _ _ h => h) (Or.inl ⟨?_, ?_⟩) ?_
  rotate_left
  · kernel_rfl
  · intro w
    go_simp
    try with_reducible rfl
  refine wpAny_take (i := 22) (v := ?_) rfl (by kernel_rfl) (by kernel_rfl) (by kernel_rfl) (fun _ _ _ h => h) (Or.inl ⟨?_, ?_⟩) ?_
  rotate_left
  · kernel_rfl
  · intro w
    go_simp
    try with_reducible rfl
  refine wpAny_take (i := 23) (v := ?_) rfl (by kernel_rfl) (by kernel_rfl) (by kernel_rfl) (fun _ _ _ h => h) (Or.inl ⟨?_, ?_⟩) ?_
  rotate_left
  · kernel_rfl
  · intro w
    go_simp
    try with_reducible rfl
  refine wpAny_take (i := 24) (v := ?_) rfl (by kernel_rfl) (by kernel_rfl) (by kernel_rfl) (fun _ _ _ h => h) (Or.inl ⟨?_, ?_⟩) ?_
  rotate_left
  · kernel_rfl
  · intro w
    go_simp
    try with_reducible rfl
  refine wpAny_take (i := 25) (v := ?_) rfl (by kernel_rfl) (by kernel_rfl) (by kernel_rfl) (fun _ _ _ h => h) (Or.inl ⟨?_, ?_⟩) ?_
  rotate_left
  · kernel_rfl
  · intro w
    go_simp
    try with_reducible rfl
  refine wpAny_take (i := 27) (v := ?_) rfl (by kernel_rfl) (by kernel_rfl) (by kernel_rfl) (fun _ _ _ h => h) (Or.inl ⟨?_, ?_⟩) ?_
  rotate_left
  · kernel_rfl
  · intro w
    go_simp
    try with_reducible rfl
  refine wpAny_take (i := 28) (v := ?_) rfl (by kernel_rfl) (by kernel_rfl) (by kernel_rfl) (fun _ _ _ h => h) (Or.inl ⟨?_, ?_⟩) ?_
  rotate_left
  · kernel_rfl
  · intro w
    go_simp
    try with_reducible rfl
  refine wpAny_take (i := 29) (v := ?_) rfl (by kernel_rfl) (by kernel_rfl) (by kernel_rfl) (fun _ _ _ h => h) (Or.inl ⟨?_, ?_⟩) ?_
  rotate_left
  · kernel_rfl
  · intro w
    go_simp
    try with_reducible rfl
  refine wpAny_take (i := 30) (v := ?_) rfl (by kernel_rfl) (by kernel_rfl) (by kernel_rfl) (fun _ _ _ h => h) (Or.inl ⟨?_, ?_⟩) ?_
  rotate_left
  · kernel_rfl
  · intro w
    go_simp
    try with_reducible rfl
  refine wpAny_ready (rs := [26]) (by kernel_rfl) (by simp) ?_
  refine AllReady.cons rfl (fun K hK => ?_) AllReady.nil
  go_simp
  go_wp2_with (first | (go_at_call 10; ((with_reducible refine (wakes1 _).mono ?_); rintro e w0 ⟨rfl, hb0⟩)) | (go_at_call 8; ((with_reducible refine (put_any _ (by omega) (by omega) _ _).mono ?_); rintro e w1 ⟨rfl, hb1⟩)) | (go_at_call 11; ((with_reducible refine (G1.out _).mono ?_); rintro e w3 ⟨rfl, hb3⟩)) | (go_at_call 11; ((with_reducible refine (G2.out _).mono ?_); rintro e w4 ⟨rfl, hb4⟩)))
  try (refine hK _ _ ?_; clear hK K)
  refine wpAny_take (i := 31) (v := ?_) rfl (by kernel_rfl) (by kernel_rfl) (by kernel_rfl) (fun _ _ _ h => h) (Or.inl ⟨?_, ?_⟩) ?_
  rotate_left
  · kernel_rfl
  · intro w
    go_simp
    try with_reducible rfl
  refine wpAny_take (i := 32) (v := ?_) rfl (by kernel_rfl) (by kernel_rfl) (by kernel_rfl) (fun _ _ _ h => h) (Or.inl ⟨?_, ?_⟩) ?_
  rotate_left
  · kernel_rfl
  · intro w
    go_simp
    try with_reducible rfl
  refine wpAny_take (i := 33) (v := ?_) rfl (by kernel_rfl) (by kernel_rfl) (by kernel_rfl) (fun _ _ _ h => h) (Or.inl ⟨?_, ?_⟩) ?_
  rotate_left
  · kernel_rfl
  · intro w
    go_simp
    try with_reducible rfl
  refine wpAny_done (by kernel_rfl) ?_ _
  go_wp2
  go_ret
  exact ⟨rfl, by repeat (first | (with_reducible assumption) | (refine below_trans (by assumption) ?_) | (refine below_drew ?_))⟩

set_option maxHeartbeats 1000000 in
theorem beJoins_walk4 (n : Int) (n0 : 0 ≤ n) (n1 : n ≤ 18446744073709551615) (k : Int) (k0 : 0 ≤ k) (k1 : k ≤ 255) (w : World) (hk : k % 7 = 3) :
    Calls Try.prog 7 #[.int .u64 n, .int .u8 k] w fun e w' => e = .returned (.bool true) ∧ Below w.heap.size w w' := by
  have s1 : ∀ m, (bs (putS m 4)).size = 4 := fun m => putS_size m 4 (by omega) (by omega)
  have s7 : ∀ m, (bs (putS m 4)).size = 4 := fun m => putS_size m 4 (by omega) (by omega)
  have s8 : ∀ m, (bs (putS m 8)).size = 8 := fun m => putS_size m 8 (by omega) (by omega)
  have hc : bs (putS (n / 4294967296) 4) ++ bs (putS n 4) = bs (putS n 8) := join_cat n n0 4 (by omega) (by omega)
  have ha : bits .and .u64 n 4294967295 = n % 4294967296 := and_mask n n0 n1 32 (by omega)
  have w1 : IntKind.i64.wrap 4 = 4 := rfl
  have w2 : IntKind.i64.wrap 32 = 32 := rfl
  have w3 : IntKind.u64.wrap 4294967296 = 4294967296 := rfl
  have w4 : IntKind.u64.wrap 4294967295 = 4294967295 := rfl
  have G1 := hide (fun W : World => show Calls Try.prog 11 #[.string ((bs (putS n 8)).extract 4 8)] W fun e w' => e = .returned (.int .u64 (n % 4294967296)) ∧ Below W.heap.size W w' by
    have h := get_any ((bs (putS n 8)).extract 4 8) (by simp; omega) W
    rw [show ((getN (last8 ((bs (putS n 8)).extract 4 8).data.toList) : Nat) : Int) = n % 4294967296 from join_low n n0 4 (by omega)] at h
    exact h)
  have G2 := hide (fun W : World => show Calls Try.prog 11 #[.string ((bs (putS n 8)).extract 0 4)] W fun e w' => e = .returned (.int .u64 (n / 4294967296)) ∧ Below W.heap.size W w' by
    have h := get_any ((bs (putS n 8)).extract 0 4) (by simp; omega) W
    rw [show ((getN (last8 ((bs (putS n 8)).extract 0 4).data.toList) : Nat) : Int) = n / 4294967296 from join_high n n0 n1 4 (by omega)] at h
    exact h)
  go_enter Try.func7, Try.ntmps7
  go_wp2_with (first | (go_at_call 10; ((with_reducible refine (wakes1 _).mono ?_); rintro e w0 ⟨rfl, hb0⟩)) | (go_at_call 8; ((with_reducible refine (put_any _ (by omega) (by omega) _ _).mono ?_); rintro e w1 ⟨rfl, hb1⟩)) | (go_at_call 11; ((with_reducible refine (G1.out _).mono ?_); rintro e w3 ⟨rfl, hb3⟩)) | (go_at_call 11; ((with_reducible refine (G2.out _).mono ?_); rintro e w4 ⟨rfl, hb4⟩)))
  refine wp_region_any (by kernel_rfl) ?_
  try (change wpAny _ _ _ _ _ _ _ (World.drew _))
  refine wpAny_ready (rs := [0]) (by kernel_rfl) (by simp) ?_
  refine AllReady.cons rfl (fun K hK => ?_) AllReady.nil
  go_simp
  go_wp2_with (first | (go_at_call 10; ((with_reducible refine (wakes1 _).mono ?_); rintro e w0 ⟨rfl, hb0⟩)) | (go_at_call 8; ((with_reducible refine (put_any _ (by omega) (by omega) _ _).mono ?_); rintro e w1 ⟨rfl, hb1⟩)) | (go_at_call 11; ((with_reducible refine (G1.out _).mono ?_); rintro e w3 ⟨rfl, hb3⟩)) | (go_at_call 11; ((with_reducible refine (G2.out _).mono ?_); rintro e w4 ⟨rfl, hb4⟩)))
  try (refine hK _ _ ?_; clear hK K)
  refine wpAny_take (i := 1) (v := ?_) rfl (by kernel_rfl) (by kernel_rfl) (by kernel_rfl) (fun _ _ _ h => h) (Or.inl ⟨?_, ?_⟩) ?_
  rotate_left
  · kernel_rfl
  · intro w
    go_simp
    try with_reducible rfl
  refine wpAny_take (i := 2) (v := ?_) rfl (by kernel_rfl) (by kernel_rfl) (by kernel_rfl) (fun _ _ _ h => h) (Or.inl ⟨?_, ?_⟩) ?_
  rotate_left
  · kernel_rfl
  · intro w
    go_simp
    try with_reducible rfl
  refine wpAny_take (i := 3) (v := ?_) rfl (by kernel_rfl) (by kernel_rfl) (by kernel_rfl) (fun _ _ _ h => h) (Or.inl ⟨?_, ?_⟩) ?_
  rotate_left
  · kernel_rfl
  · intro w
    go_simp
    try with_reducible rfl
  refine wpAny_ready (rs := [4]) (by kernel_rfl) (by simp) ?_
  refine AllReady.cons rfl (fun K hK => ?_) AllReady.nil
  go_simp
  go_wp2_with (first | (go_at_call 10; ((with_reducible refine (wakes1 _).mono ?_); rintro e w0 ⟨rfl, hb0⟩)) | (go_at_call 8; ((with_reducible refine (put_any _ (by omega) (by omega) _ _).mono ?_); rintro e w1 ⟨rfl, hb1⟩)) | (go_at_call 11; ((with_reducible refine (G1.out _).mono ?_); rintro e w3 ⟨rfl, hb3⟩)) | (go_at_call 11; ((with_reducible refine (G2.out _).mono ?_); rintro e w4 ⟨rfl, hb4⟩)))
  try (refine hK _ _ ?_; clear hK K)
  refine wpAny_take (i := 5) (v := ?_) rfl (by kernel_rfl) (by kernel_rfl) (by kernel_rfl) (fun _ _ _ h => h) (Or.inl ⟨?_, ?_⟩) ?_
  rotate_left
  · kernel_rfl
  · intro w
    go_simp
    try with_reducible rfl
  refine wpAny_take (i := 6) (v := ?_) rfl (by kernel_rfl) (by kernel_rfl) (by kernel_rfl) (fun _ _ _ h => h) (Or.inl ⟨?_, ?_⟩) ?_
  rotate_left
  · kernel_rfl
  · intro w
    go_simp
    try with_reducible rfl
  refine wpAny_take (i := 7) (v := ?_) rfl (by kernel_rfl) (by kernel_rfl) (by kernel_rfl) (fun _ _ _ h => h) (Or.inl ⟨?_, ?_⟩) ?_
  rotate_left
  · kernel_rfl
  · intro w
    go_simp
    try with_reducible rfl
  refine wpAny_take (i := 8) (v := ?_) rfl (by kernel_rfl) (by kernel_rfl) (by kernel_rfl) (fun _ _ _ h => h) (Or.inl ⟨?_, ?_⟩) ?_
  rotate_left
  · kernel_rfl
  · intro w
    go_simp
    try with_reducible rfl
  refine wpAny_take (i := 9) (v := ?_) rfl (by kernel_rfl) (by kernel_rfl) (by kernel_rfl) (fun _ _ _ h => h) (Or.inl ⟨?_, ?_⟩) ?_
  rotate_left
  · kernel_rfl
  · intro w
    go_simp
    try with_reducible rfl
  refine wpAny_take (i := 10) (v := ?_) rfl (by kernel_rfl) (by kernel_rfl) (by kernel_rfl) (fun _ _ _ h => h) (Or.inl ⟨?_, ?_⟩) ?_
  rotate_left
  · kernel_rfl
  · intro w
    go_simp
    try with_reducible rfl
  refine wpAny_take (i := 11) (v := ?_) rfl (by kernel_rfl) (by kernel_rfl) (by kernel_rfl) (fun _ _ _ h => h) (Or.inl ⟨?_, ?_⟩) ?_
  rotate_left
  · kernel_rfl
  · intro w
    go_simp
    try with_reducible rfl
  refine wpAny_take (i := 13) (v := ?_) rfl (by kernel_rfl) (by kernel_rfl) (by kernel_rfl) (fun _ _ _ h => h) (Or.inl ⟨?_, ?_⟩) ?_
  rotate_left
  · kernel_rfl
  · intro w
    go_simp
    try with_reducible rfl
  refine wpAny_take (i := 14) (v := ?_) rfl (by kernel_rfl) (by kernel_rfl) (by kernel_rfl) (fun _ _ _ h => h) (Or.inl ⟨?_, ?_⟩) ?_
  rotate_left
  · kernel_rfl
  · intro w
    go_simp
    try with_reducible rfl
  refine wpAny_take (i := 15) (v := ?_) rfl (by kernel_rfl) (by kernel_rfl) (by kernel_rfl) (fun _ _ _ h => h) (Or.inl ⟨?_, ?_⟩) ?_
  rotate_left
  · kernel_rfl
  · intro w
    go_simp
    try with_reducible rfl
  refine wpAny_take (i := 16) (v := ?_) rfl (by kernel_rfl) (by kernel_rfl) (by kernel_rfl) (fun _ _ _ h => h) (Or.inl ⟨?_, ?_⟩) ?_
  rotate_left
  · kernel_rfl
  · intro w
    go_simp
    try with_reducible rfl
  refine wpAny_take (i := 17) (v := ?_) rfl (by kernel_rfl) (by kernel_rfl) (by kernel_rfl) (fun _ _ _ h => h) (Or.inl ⟨?_, ?_⟩) ?_
  rotate_left
  · kernel_rfl
  · intro w
    go_simp
    try with_reducible rfl
  refine wpAny_take (i := 18) (v := ?_) rfl (by kernel_rfl) (by kernel_rfl) (by kernel_rfl) (fun _ _ _ h => h) (Or.inl ⟨?_, ?_⟩) ?_
  rotate_left
  · kernel_rfl
  · intro w
    go_simp
    try with_reducible rfl
  refine wpAny_ready (rs := [12]) (by kernel_rfl) (by simp) ?_
  refine AllReady.cons rfl (fun K hK => ?_) AllReady.nil
  go_simp
  go_wp2_with (first | (go_at_call 10; ((with_reducible refine (wakes1 _).mono ?_); rintro e w0 ⟨rfl, hb0⟩)) | (go_at_call 8; ((with_reducible refine (put_any _ (by omega) (by omega) _ _).mono ?_); rintro e w1 ⟨rfl, hb1⟩)) | (go_at_call 11; ((with_reducible refine (G1.out _).mono ?_); rintro e w3 ⟨rfl, hb3⟩)) | (go_at_call 11; ((with_reducible refine (G2.out _).mono ?_); rintro e w4 ⟨rfl, hb4⟩)))
  try (refine hK _ _ ?_; clear hK K)
  refine wpAny_take (i := 19) (v := ?_) rfl (by kernel_rfl) (by kernel_rfl) (by kernel_rfl) (fun _ _ _ h => h) (Or.inl ⟨?_, ?_⟩) ?_
  rotate_left
  · kernel_rfl
  · intro w
    go_simp
    try with_reducible rfl
  refine wpAny_take (i := 20) (v := ?_) rfl (by kernel_rfl) (by kernel_rfl) (by kernel_rfl) (fun _ _ _ h => h) (Or.inl ⟨?_, ?_⟩) ?_
  rotate_left
  · kernel_rfl
  · intro w
    go_simp
    try with_reducible rfl
  refine wpAny_take (i := 21) (v := ?_) rfl (by kernel_rfl) (by kernel_rfl) (by kernel_rfl) (fun _ _ _ h => h) (Or.inl ⟨?_, ?_⟩) ?_
  rotate_left
  · kernel_rfl
  · intro w
    go_simp
    try with_reducible rfl
  refine wpAny_take (i := 22) (v := ?_) rfl (by kernel_rfl) (by kernel_rfl) (by kernel_rfl) (fun _ _ _ h => h) (Or.inl ⟨?_, ?_⟩) ?_
  rotate_left
  · kernel_rfl
  · intro w
    go_simp
    try with_reducible rfl
  refine wpAny_take (i := 23) (v := ?_) rfl (by kernel_rfl) (by kernel_rfl) (by kernel_rfl) (fun _ _ _ h => h) (Or.inl ⟨?_, ?_⟩) ?_
  rotate_left
  · kernel_rfl
  · intro w
    go_simp
    try with_reducible rfl
  refine wpAny_take (i := 24) (v := ?_) rfl (by kernel_rfl) (by kernel_rfl) (by kernel_rfl) (fun _ _ _ h => h) (Or.inl ⟨?_, ?_⟩) ?_
  rotate_left
  · kernel_rfl
  · intro w
    go_simp
    try with_reducible rfl
  refine wpAny_take (i := 25) (v := ?_) rfl (by kernel_rfl) (by kernel_rfl) (by kernel_rfl) (fun _ _ _ h => h) (Or.inl ⟨?_, ?_⟩) ?_
  rotate_left
  · kernel_rfl
  · intro w
    go_simp
    try with_reducible rfl
  refine wpAny_take (i := 27) (v := ?_) rfl (by kernel_rfl) (by kernel_rfl) (by kernel_rfl) (fun _ _ _ h => h) (Or.inl ⟨?_, ?_⟩) ?_
  rotate_left
  · kernel_rfl
  · intro w
    go_simp
    try with_reducible rfl
  refine wpAny_take (i := 28) (v := ?_) rfl (by kernel_rfl) (by kernel_rfl) (by kernel_rfl) (fun _ _ _ h => h) (Or.inl ⟨?_, ?_⟩) ?_
  rotate_left
  · kernel_rfl
  · intro w
    go_simp
    try with_reducible rfl
  refine wpAny_take (i := 29) (v := ?_) rfl (by kernel_rfl) (by kernel_rfl) (by kernel_rfl) (fun _ _ _ h => h) (Or.inl ⟨?_, ?_⟩) ?_
  rotate_left
  · kernel_rfl
  · intro w
    go_simp
    try with_reducible rfl
  refine wpAny_take (i := 30) (v := ?_) rfl (by kernel_rfl) (by kernel_rfl) (by kernel_rfl) (fun _ _ _ h => h) (Or.inl ⟨?_, ?_⟩) ?_
  rotate_left
  · kernel_rfl
  · intro w
    go_simp
    try with_reducible rfl
  refine wpAny_ready (rs := [26]) (by kernel_rfl) (by simp) ?_
  refine AllReady.cons rfl (fun K hK => ?_) AllReady.nil
  go_simp
  go_wp2_with (first | (go_at_call 10; ((with_reducible refine (wakes1 _).mono ?_); rintro e w0 ⟨rfl, hb0⟩)) | (go_at_call 8; ((with_reducible refine (put_any _ (by omega) (by omega) _ _).mono ?_); rintro e w1 ⟨rfl, hb1⟩)) | (go_at_call 11; ((with_reducible refine (G1.out _).mono ?_); rintro e w3 ⟨rfl, hb3⟩)) | (go_at_call 11; ((with_reducible refine (G2.out _).mono ?_); rintro e w4 ⟨rfl, hb4⟩)))
  try (refine hK _ _ ?_; clear hK K)
  refine wpAny_take (i := 31) (v := ?_) rfl (by kernel_rfl) (by kernel_rfl) (by kernel_rfl) (fun _ _ _ h => h) (Or.inl ⟨?_, ?_⟩) ?_
  rotate_left
  · kernel_rfl
  · intro w
    go_simp
    try with_reducible rfl
  refine wpAny_take (i := 32) (v := ?_) rfl (by kernel_rfl) (by kernel_rfl) (by kernel_rfl) (fun _ _ _ h => h) (Or.inl ⟨?_, ?_⟩) ?_
  rotate_left
  · kernel_rfl
  · intro w
    go_simp
    try with_reducible rfl
  refine wpAny_take (i := 33) (v := ?_) rfl (by kernel_rfl) (by kernel_rfl) (by kernel_rfl) (fun _ _ _ h => h) (Or.inl ⟨?_, ?_⟩) ?_
  rotate_left
  · kernel_rfl
  · intro w
    go_simp
    try with_reducible rfl
  refine wpAny_done (by kernel_rfl) ?_ _
  go_wp2
  go_ret
  exact ⟨rfl, by repeat (first | (with_reducible assumption) | (refine below_trans (by assumption) ?_) | (refine below_drew ?_))⟩

set_option maxHeartbeats 1000000 in
theorem beJoins_walk5 (n : Int) (n0 : 0 ≤ n) (n1 : n ≤ 18446744073709551615) (k : Int) (k0 : 0 ≤ k) (k1 : k ≤ 255) (w : World) (hk : k % 7 = 4) :
    Calls Try.prog 7 #[.int .u64 n, .int .u8 k] w fun e w' => e = .returned (.bool true) ∧ Below w.heap.size w w' := by
  have s1 : ∀ m, (bs (putS m 5)).size = 5 := fun m => putS_size m 5 (by omega) (by omega)
  have s7 : ∀ m, (bs (putS m 3)).size = 3 := fun m => putS_size m 3 (by omega) (by omega)
  have s8 : ∀ m, (bs (putS m 8)).size = 8 := fun m => putS_size m 8 (by omega) (by omega)
  have hc : bs (putS (n / 1099511627776) 3) ++ bs (putS n 5) = bs (putS n 8) := join_cat n n0 5 (by omega) (by omega)
  have ha : bits .and .u64 n 1099511627775 = n % 1099511627776 := and_mask n n0 n1 40 (by omega)
  have w1 : IntKind.i64.wrap 3 = 3 := rfl
  have w2 : IntKind.i64.wrap 40 = 40 := rfl
  have w3 : IntKind.u64.wrap 1099511627776 = 1099511627776 := rfl
  have w4 : IntKind.u64.wrap 1099511627775 = 1099511627775 := rfl
  have G1 := hide (fun W : World => show Calls Try.prog 11 #[.string ((bs (putS n 8)).extract 3 8)] W fun e w' => e = .returned (.int .u64 (n % 1099511627776)) ∧ Below W.heap.size W w' by
    have h := get_any ((bs (putS n 8)).extract 3 8) (by simp; omega) W
    rw [show ((getN (last8 ((bs (putS n 8)).extract 3 8).data.toList) : Nat) : Int) = n % 1099511627776 from join_low n n0 5 (by omega)] at h
    exact h)
  have G2 := hide (fun W : World => show Calls Try.prog 11 #[.string ((bs (putS n 8)).extract 0 3)] W fun e w' => e = .returned (.int .u64 (n / 1099511627776)) ∧ Below W.heap.size W w' by
    have h := get_any ((bs (putS n 8)).extract 0 3) (by simp; omega) W
    rw [show ((getN (last8 ((bs (putS n 8)).extract 0 3).data.toList) : Nat) : Int) = n / 1099511627776 from join_high n n0 n1 5 (by omega)] at h
    exact h)
  go_enter Try.func7, Try.ntmps7
  go_wp2_with (first | (go_at_call 10; ((with_reducible refine (wakes1 _).mono ?_); rintro e w0 ⟨rfl, hb0⟩)) | (go_at_call 8; ((with_reducible refine (put_any _ (by omega) (by omega) _ _).mono ?_); rintro e w1 ⟨rfl, hb1⟩)) | (go_at_call 11; ((with_reducible refine (G1.out _).mono ?_); rintro e w3 ⟨rfl, hb3⟩)) | (go_at_call 11; ((with_reducible refine (G2.out _).mono ?_); rintro e w4 ⟨rfl, hb4⟩)))
  refine wp_region_any (by kernel_rfl) ?_
  try (change wpAny _ _ _ _ _ _ _ (World.drew _))
  refine wpAny_ready (rs := [0]) (by kernel_rfl) (by simp) ?_
  refine AllReady.cons rfl (fun K hK => ?_) AllReady.nil
  go_simp
  go_wp2_with (first | (go_at_call 10; ((with_reducible refine (wakes1 _).mono ?_); rintro e w0 ⟨rfl, hb0⟩)) | (go_at_call 8; ((with_reducible refine (put_any _ (by omega) (by omega) _ _).mono ?_); rintro e w1 ⟨rfl, hb1⟩)) | (go_at_call 11; ((with_reducible refine (G1.out _).mono ?_); rintro e w3 ⟨rfl, hb3⟩)) | (go_at_call 11; ((with_reducible refine (G2.out _).mono ?_); rintro e w4 ⟨rfl, hb4⟩)))
  try (refine hK _ _ ?_; clear hK K)
  refine wpAny_take (i := 1) (v := ?_) rfl (by kernel_rfl) (by kernel_rfl) (by kernel_rfl) (fun _ _ _ h => h) (Or.inl ⟨?_, ?_⟩) ?_
  rotate_left
  · kernel_rfl
  · intro w
    go_simp
    try with_reducible rfl
  refine wpAny_take (i := 2) (v := ?_) rfl (by kernel_rfl) (by kernel_rfl) (by kernel_rfl) (fun _ _ _ h => h) (Or.inl ⟨?_, ?_⟩) ?_
  rotate_left
  · kernel_rfl
  · intro w
    go_simp
    try with_reducible rfl
  refine wpAny_take (i := 3) (v := ?_) rfl (by kernel_rfl) (by kernel_rfl) (by kernel_rfl) (fun _ _ _ h => h) (Or.inl ⟨?_, ?_⟩) ?_
  rotate_left
  · kernel_rfl
  · intro w
    go_simp
    try with_reducible rfl
  refine wpAny_ready (rs := [4]) (by kernel_rfl) (by simp) ?_
  refine AllReady.cons rfl (fun K hK => ?_) AllReady.nil
  go_simp
  go_wp2_with (first | (go_at_call 10; ((with_reducible refine (wakes1 _).mono ?_); rintro e w0 ⟨rfl, hb0⟩)) | (go_at_call 8; ((with_reducible refine (put_any _ (by omega) (by omega) _ _).mono ?_); rintro e w1 ⟨rfl, hb1⟩)) | (go_at_call 11; ((with_reducible refine (G1.out _).mono ?_); rintro e w3 ⟨rfl, hb3⟩)) | (go_at_call 11; ((with_reducible refine (G2.out _).mono ?_); rintro e w4 ⟨rfl, hb4⟩)))
  try (refine hK _ _ ?_; clear hK K)
  refine wpAny_take (i := 5) (v := ?_) rfl (by kernel_rfl) (by kernel_rfl) (by kernel_rfl) (fun _ _ _ h => h) (Or.inl ⟨?_, ?_⟩) ?_
  rotate_left
  · kernel_rfl
  · intro w
    go_simp
    try with_reducible rfl
  refine wpAny_take (i := 6) (v := ?_) rfl (by kernel_rfl) (by kernel_rfl) (by kernel_rfl) (fun _ _ _ h => h) (Or.inl ⟨?_, ?_⟩) ?_
  rotate_left
  · kernel_rfl
  · intro w
    go_simp
    try with_reducible rfl
  refine wpAny_take (i := 7) (v := ?_) rfl (by kernel_rfl) (by kernel_rfl) (by kernel_rfl) (fun _ _ _ h => h) (Or.inl ⟨?_, ?_⟩) ?_
  rotate_left
  · kernel_rfl
  · intro w
    go_simp
    try with_reducible rfl
  refine wpAny_take (i := 8) (v := ?_) rfl (by kernel_rfl) (by kernel_rfl) (by kernel_rfl) (fun _ _ _ h => h) (Or.inl ⟨?_, ?_⟩) ?_
  rotate_left
  · kernel_rfl
  · intro w
    go_simp
    try with_reducible rfl
  refine wpAny_take (i := 9) (v := ?_) rfl (by kernel_rfl) (by kernel_rfl) (by kernel_rfl) (fun _ _ _ h => h) (Or.inl ⟨?_, ?_⟩) ?_
  rotate_left
  · kernel_rfl
  · intro w
    go_simp
    try with_reducible rfl
  refine wpAny_take (i := 10) (v := ?_) rfl (by kernel_rfl) (by kernel_rfl) (by kernel_rfl) (fun _ _ _ h => h) (Or.inl ⟨?_, ?_⟩) ?_
  rotate_left
  · kernel_rfl
  · intro w
    go_simp
    try with_reducible rfl
  refine wpAny_take (i := 11) (v := ?_) rfl (by kernel_rfl) (by kernel_rfl) (by kernel_rfl) (fun _ _ _ h => h) (Or.inl ⟨?_, ?_⟩) ?_
  rotate_left
  · kernel_rfl
  · intro w
    go_simp
    try with_reducible rfl
  refine wpAny_take (i := 13) (v := ?_) rfl (by kernel_rfl) (by kernel_rfl) (by kernel_rfl) (fun _ _ _ h => h) (Or.inl ⟨?_, ?_⟩) ?_
  rotate_left
  · kernel_rfl
  · intro w
    go_simp
    try with_reducible rfl
  refine wpAny_take (i := 14) (v := ?_) rfl (by kernel_rfl) (by kernel_rfl) (by kernel_rfl) (fun _ _ _ h => h) (Or.inl ⟨?_, ?_⟩) ?_
  rotate_left
  · kernel_rfl
  · intro w
    go_simp
    try with_reducible rfl
  refine wpAny_take (i := 15) (v := ?_) rfl (by kernel_rfl) (by kernel_rfl) (by kernel_rfl) (fun _ _ _ h => h) (Or.inl ⟨?_, ?_⟩) ?_
  rotate_left
  · kernel_rfl
  · intro w
    go_simp
    try with_reducible rfl
  refine wpAny_take (i := 16) (v := ?_) rfl (by kernel_rfl) (by kernel_rfl) (by kernel_rfl) (fun _ _ _ h => h) (Or.inl ⟨?_, ?_⟩) ?_
  rotate_left
  · kernel_rfl
  · intro w
    go_simp
    try with_reducible rfl
  refine wpAny_take (i := 17) (v := ?_) rfl (by kernel_rfl) (by kernel_rfl) (by kernel_rfl) (fun _ _ _ h => h) (Or.inl ⟨?_, ?_⟩) ?_
  rotate_left
  · kernel_rfl
  · intro w
    go_simp
    try with_reducible rfl
  refine wpAny_take (i := 18) (v := ?_) rfl (by kernel_rfl) (by kernel_rfl) (by kernel_rfl) (fun _ _ _ h => h) (Or.inl ⟨?_, ?_⟩) ?_
  rotate_left
  · kernel_rfl
  · intro w
    go_simp
    try with_reducible rfl
  refine wpAny_ready (rs := [12]) (by kernel_rfl) (by simp) ?_
  refine AllReady.cons rfl (fun K hK => ?_) AllReady.nil
  go_simp
  go_wp2_with (first | (go_at_call 10; ((with_reducible refine (wakes1 _).mono ?_); rintro e w0 ⟨rfl, hb0⟩)) | (go_at_call 8; ((with_reducible refine (put_any _ (by omega) (by omega) _ _).mono ?_); rintro e w1 ⟨rfl, hb1⟩)) | (go_at_call 11; ((with_reducible refine (G1.out _).mono ?_); rintro e w3 ⟨rfl, hb3⟩)) | (go_at_call 11; ((with_reducible refine (G2.out _).mono ?_); rintro e w4 ⟨rfl, hb4⟩)))
  try (refine hK _ _ ?_; clear hK K)
  refine wpAny_take (i := 19) (v := ?_) rfl (by kernel_rfl) (by kernel_rfl) (by kernel_rfl) (fun _ _ _ h => h) (Or.inl ⟨?_, ?_⟩) ?_
  rotate_left
  · kernel_rfl
  · intro w
    go_simp
    try with_reducible rfl
  refine wpAny_take (i := 20) (v := ?_) rfl (by kernel_rfl) (by kernel_rfl) (by kernel_rfl) (fun _ _ _ h => h) (Or.inl ⟨?_, ?_⟩) ?_
  rotate_left
  · kernel_rfl
  · intro w
    go_simp
    try with_reducible rfl
  refine wpAny_take (i := 21) (v := ?_) rfl (by kernel_rfl) (by kernel_rfl) (by kernel_rfl) (fun _ _ _ h => h) (Or.inl ⟨?_, ?_⟩) ?_
  rotate_left
  · kernel_rfl
  · intro w
    go_simp
    try with_reducible rfl
  refine wpAny_take (i := 22) (v := ?_) rfl (by kernel_rfl) (by kernel_rfl) (by kernel_rfl) (fun _ _ _ h => h) (Or.inl ⟨?_, ?_⟩) ?_
  rotate_left
  · kernel_rfl
  · intro w
    go_simp
    try with_reducible rfl
  refine wpAny_take (i := 23) (v := ?_) rfl (by kernel_rfl) (by kernel_rfl) (by kernel_rfl) (fun _ _ _ h => h) (Or.inl ⟨?_, ?_⟩) ?_
  rotate_left
  · kernel_rfl
  · intro w
    go_simp
    try with_reducible rfl
  refine wpAny_take (i := 24) (v := ?_) rfl (by kernel_rfl) (by kernel_rfl) (by kernel_rfl) (fun _ _ _ h => h) (Or.inl ⟨?_, ?_⟩) ?_
  rotate_left
  · kernel_rfl
  · intro w
    go_simp
    try with_reducible rfl
  refine wpAny_take (i := 25) (v := ?_) rfl (by kernel_rfl) (by kernel_rfl) (by kernel_rfl) (fun _ _ _ h => h) (Or.inl ⟨?_, ?_⟩) ?_
  rotate_left
  · kernel_rfl
  · intro w
    go_simp
    try with_reducible rfl
  refine wpAny_take (i := 27) (v := ?_) rfl (by kernel_rfl) (by kernel_rfl) (by kernel_rfl) (fun _ _ _ h => h) (Or.inl ⟨?_, ?_⟩) ?_
  rotate_left
  · kernel_rfl
  · intro w
    go_simp
    try with_reducible rfl
  refine wpAny_take (i := 28) (v := ?_) rfl (by kernel_rfl) (by kernel_rfl) (by kernel_rfl) (fun _ _ _ h => h) (Or.inl ⟨?_, ?_⟩) ?_
  rotate_left
  · kernel_rfl
  · intro w
    go_simp
    try with_reducible rfl
  refine wpAny_take (i := 29) (v := ?_) rfl (by kernel_rfl) (by kernel_rfl) (by kernel_rfl) (fun _ _ _ h => h) (Or.inl ⟨?_, ?_⟩) ?_
  rotate_left
  · kernel_rfl
  · intro w
    go_simp
    try with_reducible rfl
  refine wpAny_take (i := 30) (v := ?_) rfl (by kernel_rfl) (by kernel_rfl) (by kernel_rfl) (fun _ _ _ h => h) (Or.inl ⟨?_, ?_⟩) ?_
  rotate_left
  · kernel_rfl
  · intro w
    go_simp
    try with_reducible rfl
  refine wpAny_ready (rs := [26]) (by kernel_rfl) (by simp) ?_
  refine AllReady.cons rfl (fun K hK => ?_) AllReady.nil
  go_simp
  go_wp2_with (first | (go_at_call 10; ((with_reducible refine (wakes1 _).mono ?_); rintro e w0 ⟨rfl, hb0⟩)) | (go_at_call 8; ((with_reducible refine (put_any _ (by omega) (by omega) _ _).mono ?_); rintro e w1 ⟨rfl, hb1⟩)) | (go_at_call 11; ((with_reducible refine (G1.out _).mono ?_); rintro e w3 ⟨rfl, hb3⟩)) | (go_at_call 11; ((with_reducible refine (G2.out _).mono ?_); rintro e w4 ⟨rfl, hb4⟩)))
  try (refine hK _ _ ?_; clear hK K)
  refine wpAny_take (i := 31) (v := ?_) rfl (by kernel_rfl) (by kernel_rfl) (by kernel_rfl) (fun _ _ _ h => h) (Or.inl ⟨?_, ?_⟩) ?_
  rotate_left
  · kernel_rfl
  · intro w
    go_simp
    try with_reducible rfl
  refine wpAny_take (i := 32) (v := ?_) rfl (by kernel_rfl) (by kernel_rfl) (by kernel_rfl) (fun _ _ _ h => h) (Or.inl ⟨?_, ?_⟩) ?_
  rotate_left
  · kernel_rfl
  · intro w
    go_simp
    try with_reducible rfl
  refine wpAny_take (i := 33) (v := ?_) rfl (by kernel_rfl) (by kernel_rfl) (by kernel_rfl) (fun _ _ _ h => h) (Or.inl ⟨?_, ?_⟩) ?_
  rotate_left
  · kernel_rfl
  · intro w
    go_simp
    try with_reducible rfl
  refine wpAny_done (by kernel_rfl) ?_ _
  go_wp2
  go_ret
  exact ⟨rfl, by repeat (first | (with_reducible assumption) | (refine below_trans (by assumption) ?_) | (refine below_drew ?_))⟩

set_option maxHeartbeats 1000000 in
theorem beJoins_walk6 (n : Int) (n0 : 0 ≤ n) (n1 : n ≤ 18446744073709551615) (k : Int) (k0 : 0 ≤ k) (k1 : k ≤ 255) (w : World) (hk : k % 7 = 5) :
    Calls Try.prog 7 #[.int .u64 n, .int .u8 k] w fun e w' => e = .returned (.bool true) ∧ Below w.heap.size w w' := by
  have s1 : ∀ m, (bs (putS m 6)).size = 6 := fun m => putS_size m 6 (by omega) (by omega)
  have s7 : ∀ m, (bs (putS m 2)).size = 2 := fun m => putS_size m 2 (by omega) (by omega)
  have s8 : ∀ m, (bs (putS m 8)).size = 8 := fun m => putS_size m 8 (by omega) (by omega)
  have hc : bs (putS (n / 281474976710656) 2) ++ bs (putS n 6) = bs (putS n 8) := join_cat n n0 6 (by omega) (by omega)
  have ha : bits .and .u64 n 281474976710655 = n % 281474976710656 := and_mask n n0 n1 48 (by omega)
  have w1 : IntKind.i64.wrap 2 = 2 := rfl
  have w2 : IntKind.i64.wrap 48 = 48 := rfl
  have w3 : IntKind.u64.wrap 281474976710656 = 281474976710656 := rfl
  have w4 : IntKind.u64.wrap 281474976710655 = 281474976710655 := rfl
  have G1 := hide (fun W : World => show Calls Try.prog 11 #[.string ((bs (putS n 8)).extract 2 8)] W fun e w' => e = .returned (.int .u64 (n % 281474976710656)) ∧ Below W.heap.size W w' by
    have h := get_any ((bs (putS n 8)).extract 2 8) (by simp; omega) W
    rw [show ((getN (last8 ((bs (putS n 8)).extract 2 8).data.toList) : Nat) : Int) = n % 281474976710656 from join_low n n0 6 (by omega)] at h
    exact h)
  have G2 := hide (fun W : World => show Calls Try.prog 11 #[.string ((bs (putS n 8)).extract 0 2)] W fun e w' => e = .returned (.int .u64 (n / 281474976710656)) ∧ Below W.heap.size W w' by
    have h := get_any ((bs (putS n 8)).extract 0 2) (by simp; omega) W
    rw [show ((getN (last8 ((bs (putS n 8)).extract 0 2).data.toList) : Nat) : Int) = n / 281474976710656 from join_high n n0 n1 6 (by omega)] at h
    exact h)
  go_enter Try.func7, Try.ntmps7
  go_wp2_with (first | (go_at_call 10; ((with_reducible refine (wakes1 _).mono ?_); rintro e w0 ⟨rfl, hb0⟩)) | (go_at_call 8; ((with_reducible refine (put_any _ (by omega) (by omega) _ _).mono ?_); rintro e w1 ⟨rfl, hb1⟩)) | (go_at_call 11; ((with_reducible refine (G1.out _).mono ?_); rintro e w3 ⟨rfl, hb3⟩)) | (go_at_call 11; ((with_reducible refine (G2.out _).mono ?_); rintro e w4 ⟨rfl, hb4⟩)))
  refine wp_region_any (by kernel_rfl) ?_
  try (change wpAny _ _ _ _ _ _ _ (World.drew _))
  refine wpAny_ready (rs := [0]) (by kernel_rfl) (by simp) ?_
  refine AllReady.cons rfl (fun K hK => ?_) AllReady.nil
  go_simp
  go_wp2_with (first | (go_at_call 10; ((with_reducible refine (wakes1 _).mono ?_); rintro e w0 ⟨rfl, hb0⟩)) | (go_at_call 8; ((with_reducible refine (put_any _ (by omega) (by omega) _ _).mono ?_); rintro e w1 ⟨rfl, hb1⟩)) | (go_at_call 11; ((with_reducible refine (G1.out _).mono ?_); rintro e w3 ⟨rfl, hb3⟩)) | (go_at_call 11; ((with_reducible refine (G2.out _).mono ?_); rintro e w4 ⟨rfl, hb4⟩)))
  try (refine hK _ _ ?_; clear hK K)
  refine wpAny_take (i := 1) (v := ?_) rfl (by kernel_rfl) (by kernel_rfl) (by kernel_rfl) (fun _ _ _ h => h) (Or.inl ⟨?_, ?_⟩) ?_
  rotate_left
  · kernel_rfl
  · intro w
    go_simp
    try with_reducible rfl
  refine wpAny_take (i := 2) (v := ?_) rfl (by kernel_rfl) (by kernel_rfl) (by kernel_rfl) (fun _ _ _ h => h) (Or.inl ⟨?_, ?_⟩) ?_
  rotate_left
  · kernel_rfl
  · intro w
    go_simp
    try with_reducible rfl
  refine wpAny_take (i := 3) (v := ?_) rfl (by kernel_rfl) (by kernel_rfl) (by kernel_rfl) (fun _ _ _ h => h) (Or.inl ⟨?_, ?_⟩) ?_
  rotate_left
  · kernel_rfl
  · intro w
    go_simp
    try with_reducible rfl
  refine wpAny_ready (rs := [4]) (by kernel_rfl) (by simp) ?_
  refine AllReady.cons rfl (fun K hK => ?_) AllReady.nil
  go_simp
  go_wp2_with (first | (go_at_call 10; ((with_reducible refine (wakes1 _).mono ?_); rintro e w0 ⟨rfl, hb0⟩)) | (go_at_call 8; ((with_reducible refine (put_any _ (by omega) (by omega) _ _).mono ?_); rintro e w1 ⟨rfl, hb1⟩)) | (go_at_call 11; ((with_reducible refine (G1.out _).mono ?_); rintro e w3 ⟨rfl, hb3⟩)) | (go_at_call 11; ((with_reducible refine (G2.out _).mono ?_); rintro e w4 ⟨rfl, hb4⟩)))
  try (refine hK _ _ ?_; clear hK K)
  refine wpAny_take (i := 5) (v := ?_) rfl (by kernel_rfl) (by kernel_rfl) (by kernel_rfl) (fun _ _ _ h => h) (Or.inl ⟨?_, ?_⟩) ?_
  rotate_left
  · kernel_rfl
  · intro w
    go_simp
    try with_reducible rfl
  refine wpAny_take (i := 6) (v := ?_) rfl (by kernel_rfl) (by kernel_rfl) (by kernel_rfl) (fun _ _ _ h => h) (Or.inl ⟨?_, ?_⟩) ?_
  rotate_left
  · kernel_rfl
  · intro w
    go_simp
    try with_reducible rfl
  refine wpAny_take (i := 7) (v := ?_) rfl (by kernel_rfl) (by kernel_rfl) (by kernel_rfl) (fun _ _ _ h => h) (Or.inl ⟨?_, ?_⟩) ?_
  rotate_left
  · kernel_rfl
  · intro w
    go_simp
    try with_reducible rfl
  refine wpAny_take (i := 8) (v := ?_) rfl (by kernel_rfl) (by kernel_rfl) (by kernel_rfl) (fun _ _ _ h => h) (Or.inl ⟨?_, ?_⟩) ?_
  rotate_left
  · kernel_rfl
  · intro w
    go_simp
    try with_reducible rfl
  refine wpAny_take (i := 9) (v := ?_) rfl (by kernel_rfl) (by kernel_rfl) (by kernel_rfl) (fun _ _ _ h => h) (Or.inl ⟨?_, ?_⟩) ?_
  rotate_left
  · kernel_rfl
  · intro w
    go_simp
    try with_reducible rfl
  refine wpAny_take (i := 10) (v := ?_) rfl (by kernel_rfl) (by kernel_rfl) (by kernel_rfl) (fun _ _ _ h => h) (Or.inl ⟨?_, ?_⟩) ?_
  rotate_left
  · kernel_rfl
  · intro w
    go_simp
    try with_reducible rfl
  refine wpAny_take (i := 11) (v := ?_) rfl (by kernel_rfl) (by kernel_rfl) (by kernel_rfl) (fun _ _ _ h => h) (Or.inl ⟨?_, ?_⟩) ?_
  rotate_left
  · kernel_rfl
  · intro w
    go_simp
    try with_reducible rfl
  refine wpAny_take (i := 13) (v := ?_) rfl (by kernel_rfl) (by kernel_rfl) (by kernel_rfl) (fun _ _ _ h => h) (Or.inl ⟨?_, ?_⟩) ?_
  rotate_left
  · kernel_rfl
  · intro w
    go_simp
    try with_reducible rfl
  refine wpAny_take (i := 14) (v := ?_) rfl (by kernel_rfl) (by kernel_rfl) (by kernel_rfl) (fun _ _ _ h => h) (Or.inl ⟨?_, ?_⟩) ?_
  rotate_left
  · kernel_rfl
  · intro w
    go_simp
    try with_reducible rfl
  refine wpAny_take (i := 15) (v := ?_) rfl (by kernel_rfl) (by kernel_rfl) (by kernel_rfl) (fun _ _ _ h => h) (Or.inl ⟨?_, ?_⟩) ?_
  rotate_left
  · kernel_rfl
  · intro w
    go_simp
    try with_reducible rfl
  refine wpAny_take (i := 16) (v := ?_) rfl (by kernel_rfl) (by kernel_rfl) (by kernel_rfl) (fun _ _ _ h => h) (Or.inl ⟨?_, ?_⟩) ?_
  rotate_left
  · kernel_rfl
  · intro w
    go_simp
    try with_reducible rfl
  refine wpAny_take (i := 17) (v := ?_) rfl (by kernel_rfl) (by kernel_rfl) (by kernel_rfl) (fun _ _ _ h => h) (Or.inl ⟨?_, ?_⟩) ?_
  rotate_left
  · kernel_rfl
  · intro w
    go_simp
    try with_reducible rfl
  refine wpAny_take (i := 18) (v := ?_) rfl (by kernel_rfl) (by kernel_rfl) (by kernel_rfl) (fun _ _ _ h => h) (Or.inl ⟨?_, ?_⟩) ?_
  rotate_left
  · kernel_rfl
  · intro w
    go_simp
    try with_reducible rfl
  refine wpAny_ready (rs := [12]) (by kernel_rfl) (by simp) ?_
  refine AllReady.cons rfl (fun K hK => ?_) AllReady.nil
  go_simp
  go_wp2_with (first | (go_at_call 10; ((with_reducible refine (wakes1 _).mono ?_); rintro e w0 ⟨rfl, hb0⟩)) | (go_at_call 8; ((with_reducible refine (put_any _ (by omega) (by omega) _ _).mono ?_); rintro e w1 ⟨rfl, hb1⟩)) | (go_at_call 11; ((with_reducible refine (G1.out _).mono ?_); rintro e w3 ⟨rfl, hb3⟩)) | (go_at_call 11; ((with_reducible refine (G2.out _).mono ?_); rintro e w4 ⟨rfl, hb4⟩)))
  try (refine hK _ _ ?_; clear hK K)
  refine wpAny_take (i := 19) (v := ?_) rfl (by kernel_rfl) (by kernel_rfl) (by kernel_rfl) (fun _ _ _ h => h) (Or.inl ⟨?_, ?_⟩) ?_
  rotate_left
  · kernel_rfl
  · intro w
    go_simp
    try with_reducible rfl
  refine wpAny_take (i := 20) (v := ?_) rfl (by kernel_rfl) (by kernel_rfl) (by kernel_rfl) (fun _ _ _ h => h) (Or.inl ⟨?_, ?_⟩) ?_
  rotate_left
  · kernel_rfl
  · intro w
    go_simp
    try with_reducible rfl
  refine wpAny_take (i := 21) (v := ?_) rfl (by kernel_rfl) (by kernel_rfl) (by kernel_rfl) (fun _ _ _ h => h) (Or.inl ⟨?_, ?_⟩) ?_
  rotate_left
  · kernel_rfl
  · intro w
    go_simp
    try with_reducible rfl
  refine wpAny_take (i := 22) (v := ?_) rfl (by kernel_rfl) (by kernel_rfl) (by kernel_rfl) (fun _ _ _ h => h) (Or.inl ⟨?_, ?_⟩) ?_
  rotate_left
  · kernel_rfl
  · intro w
    go_simp
    try with_reducible rfl
  refine wpAny_take (i := 23) (v := ?_) rfl (by kernel_rfl) (by kernel_rfl) (by kernel_rfl) (fun _ _ _ h => h) (Or.inl ⟨?_, ?_⟩) ?_
  rotate_left
  · kernel_rfl
  · intro w
    go_simp
    try with_reducible rfl
  refine wpAny_take (i := 24) (v := ?_) rfl (by kernel_rfl) (by kernel_rfl) (by kernel_rfl) (fun _ _ _ h => h) (Or.inl ⟨?_, ?_⟩) ?_
  rotate_left
  · kernel_rfl
  · intro w
    go_simp
    try with_reducible rfl
  refine wpAny_take (i := 25) (v := ?_) rfl (by kernel_rfl) (by kernel_rfl) (by kernel_rfl) (fun _ _ _ h => h) (Or.inl ⟨?_, ?_⟩) ?_
  rotate_left
  · kernel_rfl
  · intro w
    go_simp
    try with_reducible rfl
  refine wpAny_take (i := 27) (v := ?_) rfl (by kernel_rfl) (by kernel_rfl) (by kernel_rfl) (fun _ _ _ h => h) (Or.inl ⟨?_, ?_⟩) ?_
  rotate_left
  · kernel_rfl
  · intro w
    go_simp
    try with_reducible rfl
  refine wpAny_take (i := 28) (v := ?_) rfl (by kernel_rfl) (by kernel_rfl) (by kernel_rfl) (fun _ _ _ h => h) (Or.inl ⟨?_, ?_⟩) ?_
  rotate_left
  · kernel_rfl
  · intro w
    go_simp
    try with_reducible rfl
  refine wpAny_take (i := 29) (v := ?_) rfl (by kernel_rfl) (by kernel_rfl) (by kernel_rfl) (fun _ _ _ h => h) (Or.inl ⟨?_, ?_⟩) ?_
  rotate_left
  · kernel_rfl
  · intro w
    go_simp
    try with_reducible rfl
  refine wpAny_take (i := 30) (v := ?_) rfl (by kernel_rfl) (by kernel_rfl) (by kernel_rfl) (fun _ _ _ h => h) (Or.inl ⟨?_, ?_⟩) ?_
  rotate_left
  · kernel_rfl
  · intro w
    go_simp
    try with_reducible rfl
  refine wpAny_ready (rs := [26]) (by kernel_rfl) (by simp) ?_
  refine AllReady.cons rfl (fun K hK => ?_) AllReady.nil
  go_simp
  go_wp2_with (first | (go_at_call 10; ((with_reducible refine (wakes1 _).mono ?_); rintro e w0 ⟨rfl, hb0⟩)) | (go_at_call 8; ((with_reducible refine (put_any _ (by omega) (by omega) _ _).mono ?_); rintro e w1 ⟨rfl, hb1⟩)) | (go_at_call 11; ((with_reducible refine (G1.out _).mono ?_); rintro e w3 ⟨rfl, hb3⟩)) | (go_at_call 11; ((with_reducible refine (G2.out _).mono ?_); rintro e w4 ⟨rfl, hb4⟩)))
  try (refine hK _ _ ?_; clear hK K)
  refine wpAny_take (i := 31) (v := ?_) rfl (by kernel_rfl) (by kernel_rfl) (by kernel_rfl) (fun _ _ _ h => h) (Or.inl ⟨?_, ?_⟩) ?_
  rotate_left
  · kernel_rfl
  · intro w
    go_simp
    try with_reducible rfl
  refine wpAny_take (i := 32) (v := ?_) rfl (by kernel_rfl) (by kernel_rfl) (by kernel_rfl) (fun _ _ _ h => h) (Or.inl ⟨?_, ?_⟩) ?_
  rotate_left
  · kernel_rfl
  · intro w
    go_simp
    try with_reducible rfl
  refine wpAny_take (i := 33) (v := ?_) rfl (by kernel_rfl) (by kernel_rfl) (by kernel_rfl) (fun _ _ _ h => h) (Or.inl ⟨?_, ?_⟩) ?_
  rotate_left
  · kernel_rfl
  · intro w
    go_simp
    try with_reducible rfl
  refine wpAny_done (by kernel_rfl) ?_ _
  go_wp2
  go_ret
  exact ⟨rfl, by repeat (first | (with_reducible assumption) | (refine below_trans (by assumption) ?_) | (refine below_drew ?_))⟩

set_option maxHeartbeats 1000000 in
theorem beJoins_walk7 (n : Int) (n0 : 0 ≤ n) (n1 : n ≤ 18446744073709551615) (k : Int) (k0 : 0 ≤ k) (k1 : k ≤ 255) (w : World) (hk : k % 7 = 6) :
    Calls Try.prog 7 #[.int .u64 n, .int .u8 k] w fun e w' => e = .returned (.bool true) ∧ Below w.heap.size w w' := by
  have s1 : ∀ m, (bs (putS m 7)).size = 7 := fun m => putS_size m 7 (by omega) (by omega)
  have s7 : ∀ m, (bs (putS m 1)).size = 1 := fun m => putS_size m 1 (by omega) (by omega)
  have s8 : ∀ m, (bs (putS m 8)).size = 8 := fun m => putS_size m 8 (by omega) (by omega)
  have hc : bs (putS (n / 72057594037927936) 1) ++ bs (putS n 7) = bs (putS n 8) := join_cat n n0 7 (by omega) (by omega)
  have ha : bits .and .u64 n 72057594037927935 = n % 72057594037927936 := and_mask n n0 n1 56 (by omega)
  have w1 : IntKind.i64.wrap 1 = 1 := rfl
  have w2 : IntKind.i64.wrap 56 = 56 := rfl
  have w3 : IntKind.u64.wrap 72057594037927936 = 72057594037927936 := rfl
  have w4 : IntKind.u64.wrap 72057594037927935 = 72057594037927935 := rfl
  have G1 := hide (fun W : World => show Calls Try.prog 11 #[.string ((bs (putS n 8)).extract 1 8)] W fun e w' => e = .returned (.int .u64 (n % 72057594037927936)) ∧ Below W.heap.size W w' by
    have h := get_any ((bs (putS n 8)).extract 1 8) (by simp; omega) W
    rw [show ((getN (last8 ((bs (putS n 8)).extract 1 8).data.toList) : Nat) : Int) = n % 72057594037927936 from join_low n n0 7 (by omega)] at h
    exact h)
  have G2 := hide (fun W : World => show Calls Try.prog 11 #[.string ((bs (putS n 8)).extract 0 1)] W fun e w' => e = .returned (.int .u64 (n / 72057594037927936)) ∧ Below W.heap.size W w' by
    have h := get_any ((bs (putS n 8)).extract 0 1) (by simp; omega) W
    rw [show ((getN (last8 ((bs (putS n 8)).extract 0 1).data.toList) : Nat) : Int) = n / 72057594037927936 from join_high n n0 n1 7 (by omega)] at h
    exact h)
  go_enter Try.func7, Try.ntmps7
  go_wp2_with (first | (go_at_call 10; ((with_reducible refine (wakes1 _).mono ?_); rintro e w0 ⟨rfl, hb0⟩)) | (go_at_call 8; ((with_reducible refine (put_any _ (by omega) (by omega) _ _).mono ?_); rintro e w1 ⟨rfl, hb1⟩)) | (go_at_call 11; ((with_reducible refine (G1.out _).mono ?_); rintro e w3 ⟨rfl, hb3⟩)) | (go_at_call 11; ((with_reducible refine (G2.out _).mono ?_); rintro e w4 ⟨rfl, hb4⟩)))
  refine wp_region_any (by kernel_rfl) ?_
  try (change wpAny _ _ _ _ _ _ _ (World.drew _))
  refine wpAny_ready (rs := [0]) (by kernel_rfl) (by simp) ?_
  refine AllReady.cons rfl (fun K hK => ?_) AllReady.nil
  go_simp
  go_wp2_with (first | (go_at_call 10; ((with_reducible refine (wakes1 _).mono ?_); rintro e w0 ⟨rfl, hb0⟩)) | (go_at_call 8; ((with_reducible refine (put_any _ (by omega) (by omega) _ _).mono ?_); rintro e w1 ⟨rfl, hb1⟩)) | (go_at_call 11; ((with_reducible refine (G1.out _).mono ?_); rintro e w3 ⟨rfl, hb3⟩)) | (go_at_call 11; ((with_reducible refine (G2.out _).mono ?_); rintro e w4 ⟨rfl, hb4⟩)))
  try (refine hK _ _ ?_; clear hK K)
  refine wpAny_take (i := 1) (v := ?_) rfl (by kernel_rfl) (by kernel_rfl) (by kernel_rfl) (fun _ _ _ h => h) (Or.inl ⟨?_, ?_⟩) ?_
  rotate_left
  · kernel_rfl
  · intro w
    go_simp
    try with_reducible rfl
  refine wpAny_take (i := 2) (v := ?_) rfl (by kernel_rfl) (by kernel_rfl) (by kernel_rfl) (fun _ _ _ h => h) (Or.inl ⟨?_, ?_⟩) ?_
  rotate_left
  · kernel_rfl
  · intro w
    go_simp
    try with_reducible rfl
  refine wpAny_take (i := 3) (v := ?_) rfl (by kernel_rfl) (by kernel_rfl) (by kernel_rfl) (fun _ _ _ h => h) (Or.inl ⟨?_, ?_⟩) ?_
  rotate_left
  · kernel_rfl
  · intro w
    go_simp
    try with_reducible rfl
  refine wpAny_ready (rs := [4]) (by kernel_rfl) (by simp) ?_
  refine AllReady.cons rfl (fun K hK => ?_) AllReady.nil
  go_simp
  go_wp2_with (first | (go_at_call 10; ((with_reducible refine (wakes1 _).mono ?_); rintro e w0 ⟨rfl, hb0⟩)) | (go_at_call 8; ((with_reducible refine (put_any _ (by omega) (by omega) _ _).mono ?_); rintro e w1 ⟨rfl, hb1⟩)) | (go_at_call 11; ((with_reducible refine (G1.out _).mono ?_); rintro e w3 ⟨rfl, hb3⟩)) | (go_at_call 11; ((with_reducible refine (G2.out _).mono ?_); rintro e w4 ⟨rfl, hb4⟩)))
  try (refine hK _ _ ?_; clear hK K)
  refine wpAny_take (i := 5) (v := ?_) rfl (by kernel_rfl) (by kernel_rfl) (by kernel_rfl) (fun _ _ _ h => h) (Or.inl ⟨?_, ?_⟩) ?_
  rotate_left
  · kernel_rfl
  · intro w
    go_simp
    try with_reducible rfl
  refine wpAny_take (i := 6) (v := ?_) rfl (by kernel_rfl) (by kernel_rfl) (by kernel_rfl) (fun _ _ _ h => h) (Or.inl ⟨?_, ?_⟩) ?_
  rotate_left
  · kernel_rfl
  · intro w
    go_simp
    try with_reducible rfl
  refine wpAny_take (i := 7) (v := ?_) rfl (by kernel_rfl) (by kernel_rfl) (by kernel_rfl) (fun _ _ _ h => h) (Or.inl ⟨?_, ?_⟩) ?_
  rotate_left
  · kernel_rfl
  · intro w
    go_simp
    try with_reducible rfl
  refine wpAny_take (i := 8) (v := ?_) rfl (by kernel_rfl) (by kernel_rfl) (by kernel_rfl) (fun _ _ _ h => h) (Or.inl ⟨?_, ?_⟩) ?_
  rotate_left
  · kernel_rfl
  · intro w
    go_simp
    try with_reducible rfl
  refine wpAny_take (i := 9) (v := ?_) rfl (by kernel_rfl) (by kernel_rfl) (by kernel_rfl) (fun _ _ _ h => h) (Or.inl ⟨?_, ?_⟩) ?_
  rotate_left
  · kernel_rfl
  · intro w
    go_simp
    try with_reducible rfl
  refine wpAny_take (i := 10) (v := ?_) rfl (by kernel_rfl) (by kernel_rfl) (by kernel_rfl) (fun _ _ _ h => h) (Or.inl ⟨?_, ?_⟩) ?_
  rotate_left
  · kernel_rfl
  · intro w
    go_simp
    try with_reducible rfl
  refine wpAny_take (i := 11) (v := ?_) rfl (by kernel_rfl) (by kernel_rfl) (by kernel_rfl) (fun _ _ _ h => h) (Or.inl ⟨?_, ?_⟩) ?_
  rotate_left
  · kernel_rfl
  · intro w
    go_simp
    try with_reducible rfl
  refine wpAny_take (i := 13) (v := ?_) rfl (by kernel_rfl) (by kernel_rfl) (by kernel_rfl) (fun _ _ _ h => h) (Or.inl ⟨?_, ?_⟩) ?_
  rotate_left
  · kernel_rfl
  · intro w
    go_simp
    try with_reducible rfl
  refine wpAny_take (i := 14) (v := ?_) rfl (by kernel_rfl) (by kernel_rfl) (by kernel_rfl) (fun _ _ _ h => h) (Or.inl ⟨?_, ?_⟩) ?_
  rotate_left
  · kernel_rfl
  · intro w
    go_simp
    try with_reducible rfl
  refine wpAny_take (i := 15) (v := ?_) rfl (by kernel_rfl) (by kernel_rfl) (by kernel_rfl) (fun _ _ _ h => h) (Or.inl ⟨?_, ?_⟩) ?_
  rotate_left
  · kernel_rfl
  · intro w
    go_simp
    try with_reducible rfl
  refine wpAny_take (i := 16) (v := ?_) rfl (by kernel_rfl) (by kernel_rfl) (by kernel_rfl) (fun _ _ _ h => h) (Or.inl ⟨?_, ?_⟩) ?_
  rotate_left
  · kernel_rfl
  · intro w
    go_simp
    try with_reducible rfl
  refine wpAny_take (i := 17) (v := ?_) rfl (by kernel_rfl) (by kernel_rfl) (by kernel_rfl) (fun _ _ _ h => h) (Or.inl ⟨?_, ?_⟩) ?_
  rotate_left
  · kernel_rfl
  · intro w
    go_simp
    try with_reducible rfl
  refine wpAny_take (i := 18) (v := ?_) rfl (by kernel_rfl) (by kernel_rfl) (by kernel_rfl) (fun _ _ _ h => h) (Or.inl ⟨?_, ?_⟩) ?_
  rotate_left
  · kernel_rfl
  · intro w
    go_simp
    try with_reducible rfl
  refine wpAny_ready (rs := [12]) (by kernel_rfl) (by simp) ?_
  refine AllReady.cons rfl (fun K hK => ?_) AllReady.nil
  go_simp
  go_wp2_with (first | (go_at_call 10; ((with_reducible refine (wakes1 _).mono ?_); rintro e w0 ⟨rfl, hb0⟩)) | (go_at_call 8; ((with_reducible refine (put_any _ (by omega) (by omega) _ _).mono ?_); rintro e w1 ⟨rfl, hb1⟩)) | (go_at_call 11; ((with_reducible refine (G1.out _).mono ?_); rintro e w3 ⟨rfl, hb3⟩)) | (go_at_call 11; ((with_reducible refine (G2.out _).mono ?_); rintro e w4 ⟨rfl, hb4⟩)))
  try (refine hK _ _ ?_; clear hK K)
  refine wpAny_take (i := 19) (v := ?_) rfl (by kernel_rfl) (by kernel_rfl) (by kernel_rfl) (fun _ _ _ h => h) (Or.inl ⟨?_, ?_⟩) ?_
  rotate_left
  · kernel_rfl
  · intro w
    go_simp
    try with_reducible rfl
  refine wpAny_take (i := 20) (v := ?_) rfl (by kernel_rfl) (by kernel_rfl) (by kernel_rfl) (fun _ _ _ h => h) (Or.inl ⟨?_, ?_⟩) ?_
  rotate_left
  · kernel_rfl
  · intro w
    go_simp
    try with_reducible rfl
  refine wpAny_take (i := 21) (v := ?_) rfl (by kernel_rfl) (by kernel_rfl) (by kernel_rfl) (fun _ _ _ h => h) (Or.inl ⟨?_, ?_⟩) ?_
  rotate_left
  · kernel_rfl
  · intro w
    go_simp
    try with_reducible rfl
  refine wpAny_take (i := 22) (v := ?_) rfl (by kernel_rfl) (by kernel_rfl) (by kernel_rfl) (fun _ _ _ h => h) (Or.inl ⟨?_, ?_⟩) ?_
  rotate_left
  · kernel_rfl
  · intro w
    go_simp
    try with_reducible rfl
  refine wpAny_take (i := 23) (v := ?_) rfl (by kernel_rfl) (by kernel_rfl) (by kernel_rfl) (fun _ _ _ h => h) (Or.inl ⟨?_, ?_⟩) ?_
  rotate_left
  · kernel_rfl
  · intro w
    go_simp
    try with_reducible rfl
  refine wpAny_take (i := 24) (v := ?_) rfl (by kernel_rfl) (by kernel_rfl) (by kernel_rfl) (fun _ _ _ h => h) (Or.inl ⟨?_, ?_⟩) ?_
  rotate_left
  · kernel_rfl
  · intro w
    go_simp
    try with_reducible rfl
  refine wpAny_take (i := 25) (v := ?_) rfl (by kernel_rfl) (by kernel_rfl) (by kernel_rfl) (fun _ _ _ h => h) (Or.inl ⟨?_, ?_⟩) ?_
  rotate_left
  · kernel_rfl
  · intro w
    go_simp
    try with_reducible rfl
  refine wpAny_take (i := 27) (v := ?_) rfl (by kernel_rfl) (by kernel_rfl) (by kernel_rfl) (fun _ _ _ h => h) (Or.inl ⟨?_, ?_⟩) ?_
  rotate_left
  · kernel_rfl
  · intro w
    go_simp
    try with_reducible rfl
  refine wpAny_take (i := 28) (v := ?_) rfl (by kernel_rfl) (by kernel_rfl) (by kernel_rfl) (fun _ _ _ h => h) (Or.inl ⟨?_, ?_⟩) ?_
  rotate_left
  · kernel_rfl
  · intro w
    go_simp
    try with_reducible rfl
  refine wpAny_take (i := 29) (v := ?_) rfl (by kernel_rfl) (by kernel_rfl) (by kernel_rfl) (fun _ _ _ h => h) (Or.inl ⟨?_, ?_⟩) ?_
  rotate_left
  · kernel_rfl
  · intro w
    go_simp
    try with_reducible rfl
  refine wpAny_take (i := 30) (v := ?_) rfl (by kernel_rfl) (by kernel_rfl) (by kernel_rfl) (fun _ _ _ h => h) (Or.inl ⟨?_, ?_⟩) ?_
  rotate_left
  · kernel_rfl
  · intro w
    go_simp
    try with_reducible rfl
  refine wpAny_ready (rs := [26]) (by kernel_rfl) (by simp) ?_
  refine AllReady.cons rfl (fun K hK => ?_) AllReady.nil
  go_simp
  go_wp2_with (first | (go_at_call 10; ((with_reducible refine (wakes1 _).mono ?_); rintro e w0 ⟨rfl, hb0⟩)) | (go_at_call 8; ((with_reducible refine (put_any _ (by omega) (by omega) _ _).mono ?_); rintro e w1 ⟨rfl, hb1⟩)) | (go_at_call 11; ((with_reducible refine (G1.out _).mono ?_); rintro e w3 ⟨rfl, hb3⟩)) | (go_at_call 11; ((with_reducible refine (G2.out _).mono ?_); rintro e w4 ⟨rfl, hb4⟩)))
  try (refine hK _ _ ?_; clear hK K)
  refine wpAny_take (i := 31) (v := ?_) rfl (by kernel_rfl) (by kernel_rfl) (by kernel_rfl) (fun _ _ _ h => h) (Or.inl ⟨?_, ?_⟩) ?_
  rotate_left
  · kernel_rfl
  · intro w
    go_simp
    try with_reducible rfl
  refine wpAny_take (i := 32) (v := ?_) rfl (by kernel_rfl) (by kernel_rfl) (by kernel_rfl) (fun _ _ _ h => h) (Or.inl ⟨?_, ?_⟩) ?_
  rotate_left
  · kernel_rfl
  · intro w
    go_simp
    try with_reducible rfl
  refine wpAny_take (i := 33) (v := ?_) rfl (by kernel_rfl) (by kernel_rfl) (by kernel_rfl) (fun _ _ _ h => h) (Or.inl ⟨?_, ?_⟩) ?_
  rotate_left
  · kernel_rfl
  · intro w
    go_simp
    try with_reducible rfl
  refine wpAny_done (by kernel_rfl) ?_ _
  go_wp2
  go_ret
  exact ⟨rfl, by repeat (first | (with_reducible assumption) | (refine below_trans (by assumption) ?_) | (refine below_drew ?_))⟩

theorem beJoins_walk (n : Int) (n0 : 0 ≤ n) (n1 : n ≤ 18446744073709551615) (k : Int) (k0 : 0 ≤ k) (k1 : k ≤ 255) (w : World) :
    Calls Try.prog 7 #[.int .u64 n, .int .u8 k] w fun e w' => e = .returned (.bool true) ∧ Below w.heap.size w w' := by
  rcases (show k % 7 = 0 ∨ k % 7 = 1 ∨ k % 7 = 2 ∨ k % 7 = 3 ∨ k % 7 = 4 ∨ k % 7 = 5 ∨ k % 7 = 6 by omega) with h | h | h | h | h | h | h
  · exact beJoins_walk1 n n0 n1 k k0 k1 w h
  · exact beJoins_walk2 n n0 n1 k k0 k1 w h
  · exact beJoins_walk3 n n0 n1 k k0 k1 w h
  · exact beJoins_walk4 n n0 n1 k k0 k1 w h
  · exact beJoins_walk5 n n0 n1 k k0 k1 w h
  · exact beJoins_walk6 n n0 n1 k k0 k1 w h
  · exact beJoins_walk7 n n0 n1 k k0 k1 w h

set_option maxRecDepth 100000 in
theorem beJoins_lifted (os : Os) (started : os.Started) (H : Type) (enc : TypeId × Value → H) :
    ReturnsInHanded {} Try.checked os 7 .any (Rows.beJoinsSpec.pre6 enc Try.prog Try.f7 Rows.beJoinsRow.domain false) (Rows.beJoinsSpec.post enc Try.prog Try.f7 false true false false) := by
  refine returnsInHanded_of_change (C := Try.checked) own started (by kernel_rfl) Try.func7
    (ChangeSpec.witness6 (enc := enc) (C := Try.checked) false ⟨#[], #[.int .u64 0, .int .u8 0], []⟩ 8 (by kernel_rfl) (by kernel_rfl) (by kernel_rfl) (by kernel_rfl)) ?_
  intro W base args ds gs before hval0 hW _ _
  have hval : ∀ (j : Nat) t v, Try.f7.params[j]? = some t → args[j]? = some v → Value.okWide Try.prog W .any base t v := hval0
  have hW' := hW
  obtain ⟨p, q, hA0, hV, rfl, hfz, hnd⟩ := hW
  have hA : DataW.TrodAll enc Try.prog W 0 (fun _ => true) true Try.f7.params.toList args.toList ds p := hA0
  rw [Try.params7] at hA hval
  obtain ⟨v0, vs0, d0, ds0, p0, q0, hargs, rfl, rfl, h0, r0⟩ := trodAll_cons hA
  obtain ⟨v1, vs1, d1, ds1, p1, q1, rfl, rfl, rfl, h1, r1⟩ := trodAll_cons r0
  obtain ⟨rfl, rfl, rfl⟩ := trodAll_nil r1
  obtain rfl : args = #[v0, v1] := by cases args; simp_all
  obtain ⟨rfl, rfl⟩ := trodVars_none hV
  obtain ⟨n, rfl, rfl, rfl, w0⟩ := open_int Try.underlying22 (hval 0 22 v0 rfl rfl) h0
  have z0 := wf_u64 w0
  obtain ⟨k, rfl, rfl, rfl, w1⟩ := open_int Try.underlying5 (hval 1 5 v1 rfl rfl) h1
  have z1 := wf_u8 w1
  clear hA0 hval0
  refine (beJoins_walk n z0.1 z0.2 k z1.1 z1.2 W).mono fun e W' ⟨he, hb⟩ => ?_
  subst he
  exact ⟨_, rfl, post_law laidOut (of_decide_eq_true (by kernel_rfl)) rfl rfl Try.underlying4 hW' ⟨rfl, rfl, rfl⟩ hb⟩

/-- THE STATEMENT -/
theorem beJoins_holds : Rows.BeJoinsSaid :=
  OpenClaim.holds_of_wide 7 Try.f7 rfl rfl rfl rfl rfl rfl rfl ⟨rfl, rfl, rfl, rfl, rfl⟩ rfl rfl rfl rfl rfl (by kernel_rfl) Try.func7 (by kernel_rfl)
    (of_decide_eq_true (by kernel_rfl)) (by unfold Func.isWrapper; first | (rw [if_pos (by decide +kernel)]; kernel_rfl) | (rw [if_neg (by decide +kernel)]; exact ⟨rfl, rfl⟩))
    (fun os started H enc _ => beJoins_lifted os started H enc)

end Go.Proofs.Ytkfnicidoaikeaa
