/-
  Layer 1, the document's answers (package tillrollref01) by contracts.
-/
import Derived.Test.YtkfnicidoaikeaaBe
namespace Go.Proofs.Ytkfnicidoaikeaa
open Go.RowKit

theorem power_any (b : Int) (h0 : 0 ≤ b) (h1 : b ≤ 63) (w : World) :
    Calls Try.prog 20 #[.int .i64 b] w fun e w' => e = .returned (.int .u64 (pw b.toNat : Int)) ∧ w = w' := by
  obtain ⟨k, rfl⟩ := Int.eq_ofNat_of_zero_le h0
  simp only [Int.toNat_natCast]
  go_enter Try.func20, Try.ntmps20
  go_wp2
  go_loop [3, 4] (fun p i => ∃ j : Nat, j ≤ k ∧ i = .int .i64 j ∧ p = .int .u64 (pw j : Int)) (fun _ i => k - (intOf i).toNat)
  case atStart => exact ⟨0, by omega, rfl, rfl⟩
  case round =>
    obtain ⟨j, hj, rfl, rfl⟩ := hrel
    by_cases hlt : j < k
    · have hs := hide (pw_succ j)
      have hb : pw j ≤ 4611686018427387904 := pw_le (show j ≤ 62 by omega)
      go_wp2
      go_round
      case rel => exact ⟨j + 1, by omega, by go_num, by rw [hs.out]; go_num⟩
      case measure => simp [intOf]; omega
    · obtain rfl : j = k := by omega
      go_wp2
      go_ret
      exact ⟨rfl, rfl⟩

theorem rfits_any (n : Int) (h0 : 0 ≤ n) (hn : n < 18446744073709551616) (b : Int) (w : World) :
    Calls Try.prog 14 #[.int .u64 n, .int .i64 b] w fun e w' => e = .returned (.bool (fitsB n.toNat b)) ∧ w = w' := by
  by_cases h : 1 ≤ b ∧ b ≤ 7
  · obtain ⟨hb1, hb2⟩ := h
    have hb3 : b < 8 := by omega
    have hf := hide (show decide (n < (pw (8 * b).toNat : Int)) = fitsB n.toNat b by
      obtain ⟨d, rfl⟩ := Int.eq_ofNat_of_zero_le (show 0 ≤ b by omega)
      rw [show (8 * (d : Int)).toNat = 8 * d by omega, pw_256, Bool.eq_iff_iff]
      simp only [fitsB, Int.toNat_natCast, decide_eq_true_eq]
      omega)
    go_enter Try.func14, Try.ntmps14
    go_wp2_with (go_at_call 20; refine (power_any _ (by omega) (by omega) _).mono ?_; rintro e w' ⟨rfl, rfl⟩)
    go_ret
    exact ⟨by rw [← hf.out]; rfl, rfl⟩
  · by_cases h8 : b = 8
    · subst h8
      have hf := hide (show fitsB n.toNat 8 = true from decide_eq_true ⟨by omega, by omega, by
        have : (256 : Nat) ^ (8 : Int).toNat = 18446744073709551616 := by decide
        omega⟩)
      go_enter Try.func14, Try.ntmps14
      go_wp2_with fail
      go_ret
      exact ⟨by rw [hf.out]; rfl, rfl⟩
    · have hf := hide (show fitsB n.toNat b = false from decide_eq_false (by omega))
      by_cases h1 : b < 1
      · go_enter Try.func14, Try.ntmps14
        go_wp2_with fail
        go_ret
        exact ⟨by rw [hf.out]; rfl, rfl⟩
      · have h2 : 8 < b := by omega
        go_enter Try.func14, Try.ntmps14
        go_wp2_with fail
        go_ret
        exact ⟨by rw [hf.out]; rfl, rfl⟩

theorem rsign_mid (n : Int) (h0 : 0 ≤ n) (b : Int) (hb1 : 1 ≤ b) (hb2 : b ≤ 63) :
    signI n.toNat b = if n % (pw b.toNat : Int) < (pw (b.toNat - 1) : Int) then n % (pw b.toNat : Int) else n % (pw b.toNat : Int) - (pw (b.toNat - 1) : Int) - (pw (b.toNat - 1) : Int) := by
  obtain ⟨k, rfl⟩ := Int.eq_ofNat_of_zero_le (show 0 ≤ b by omega)
  obtain ⟨n, rfl⟩ := Int.eq_ofNat_of_zero_le h0
  have hs := pw_succ (k - 1)
  rw [show k - 1 + 1 = k by omega] at hs
  have e : (2 : Int) ^ k = ((2 ^ k : Nat) : Int) := by push_cast; rfl
  have em : ((n : Int) % ((pw k : Nat) : Int)) = ((n % pw k : Nat) : Int) := by push_cast; rfl
  simp only [Int.toNat_natCast, em]
  unfold signI signZ pw at *
  rw [if_pos (by omega), Int.toNat_natCast, e]
  generalize n % 2 ^ k = m at *
  split <;> split <;> omega
theorem rsign_64 (n : Int) (h0 : 0 ≤ n) (hn : n < 18446744073709551616) : signI n.toNat 64 = if n < 9223372036854775808 then n else n - 18446744073709551616 := by
  obtain ⟨n, rfl⟩ := Int.eq_ofNat_of_zero_le h0
  unfold signI signZ
  rw [if_pos (by omega), Int.toNat_natCast, show (64 : Int).toNat = 64 from rfl, Nat.mod_eq_of_lt (by omega)]
  split <;> split <;> omega

theorem rsign_any (n : Int) (h0 : 0 ≤ n) (hn : n < 18446744073709551616) (b : Int) (w : World) :
    Calls Try.prog 16 #[.int .u64 n, .int .i64 b] w fun e w' => e = .returned (.int .i64 (signI n.toNat b)) ∧ w = w' := by
  by_cases h : 1 ≤ b ∧ b ≤ 63
  · obtain ⟨hb1, hb2⟩ := h
    have hb3 : b < 64 := by omega
    have hf := hide (rsign_mid n h0 b hb1 hb2)
    have hp1 : 0 < (pw b.toNat : Int) := by have := pw_pos b.toNat; omega
    have hm0 := Int.emod_nonneg n (show (pw b.toNat : Int) ≠ 0 by omega)
    have hm1 := Int.emod_lt_of_pos n hp1
    have hb0 : pw b.toNat ≤ 9223372036854775808 := pw_le (show b.toNat ≤ 63 by omega)
    have hk1 : pw (b.toNat - 1) ≤ 4611686018427387904 := pw_le (show b.toNat - 1 ≤ 62 by omega)
    by_cases hlt : n % (pw b.toNat : Int) < (pw (b.toNat - 1) : Int)
    · rw [if_pos hlt] at hf
      go_enter Try.func16, Try.ntmps16
      go_wp2_with (go_at_call 20; refine (power_any _ (by omega) (by omega) _).mono ?_; rintro e w' ⟨rfl, rfl⟩)
      go_ret
      exact ⟨by rw [hf.out]; rfl, rfl⟩
    · rw [if_neg hlt] at hf
      have hge : (pw (b.toNat - 1) : Int) ≤ n % (pw b.toNat : Int) := by omega
      go_enter Try.func16, Try.ntmps16
      go_wp2_with (go_at_call 20; refine (power_any _ (by omega) (by omega) _).mono ?_; rintro e w' ⟨rfl, rfl⟩)
      go_ret
      exact ⟨by rw [hf.out]; rfl, rfl⟩
  · by_cases h64 : b = 64
    · subst h64
      have hf := hide (rsign_64 n h0 hn)
      by_cases hlt : n < 9223372036854775808
      · rw [if_pos hlt] at hf
        go_enter Try.func16, Try.ntmps16
        go_wp2_with fail
        go_ret
        exact ⟨by rw [hf.out]; rfl, rfl⟩
      · rw [if_neg hlt] at hf
        have hge : 9223372036854775808 ≤ n := by omega
        go_enter Try.func16, Try.ntmps16
        go_wp2_with fail
        go_ret
        exact ⟨by rw [hf.out]; exact congrArg (fun x => Ending.returned (Value.int .i64 x)) (by omega), rfl⟩
    · have hf := hide (show signI n.toNat b = 0 by rw [signI, if_neg (by omega)])
      by_cases h1 : b < 1
      · go_enter Try.func16, Try.ntmps16
        go_wp2_with fail
        go_ret
        exact ⟨by rw [hf.out]; rfl, rfl⟩
      · have h2 : 64 < b := by omega
        go_enter Try.func16, Try.ntmps16
        go_wp2_with fail
        go_ret
        exact ⟨by rw [hf.out]; rfl, rfl⟩

theorem rwide_any (n : Int) (h0 : -9223372036854775808 ≤ n) (hn : n ≤ 9223372036854775807) (b : Int) (w : World) :
    Calls Try.prog 18 #[.int .i64 n, .int .i64 b] w fun e w' => e = .returned (.bool (wideB n b)) ∧ w = w' := by
  by_cases h : 1 ≤ b ∧ b ≤ 63
  · obtain ⟨hb1, hb2⟩ := h
    have hb3 : b < 64 := by omega
    have hk1 : pw (b.toNat - 1) ≤ 4611686018427387904 := pw_le (show b.toNat - 1 ≤ 62 by omega)
    have hf := hide (show wideB n b = (decide (-(pw (b.toNat - 1) : Int) ≤ n) && decide (n < (pw (b.toNat - 1) : Int))) by
      unfold wideB pw
      rw [Bool.eq_iff_iff]
      simp
      omega)
    by_cases hlt : -(pw (b.toNat - 1) : Int) ≤ n
    · go_enter Try.func18, Try.ntmps18
      go_wp2_with (go_at_call 20; refine (power_any _ (by omega) (by omega) _).mono ?_; rintro e w' ⟨rfl, rfl⟩)
      go_ret
      exact ⟨by rw [hf.out, decide_eq_true hlt]; rfl, rfl⟩
    · have hge : n < -(pw (b.toNat - 1) : Int) := by omega
      have hd : decide (-(pw (b.toNat - 1) : Int) ≤ n) = false := decide_eq_false hlt
      go_enter Try.func18, Try.ntmps18
      go_wp2_with (go_at_call 20; refine (power_any _ (by omega) (by omega) _).mono ?_; rintro e w' ⟨rfl, rfl⟩)
      go_ret
      exact ⟨by rw [hf.out, hd]; rfl, rfl⟩
  · by_cases h64 : b = 64
    · subst h64
      have hf := hide (show wideB n 64 = true from decide_eq_true ⟨by omega, by omega, by
        have : (2 : Int) ^ ((64 : Int).toNat - 1) = 9223372036854775808 := by decide
        omega⟩)
      go_enter Try.func18, Try.ntmps18
      go_wp2_with fail
      go_ret
      exact ⟨by rw [hf.out]; rfl, rfl⟩
    · have hf := hide (show wideB n b = false from decide_eq_false (by omega))
      by_cases h1 : b < 1
      · go_enter Try.func18, Try.ntmps18
        go_wp2_with fail
        go_ret
        exact ⟨by rw [hf.out]; rfl, rfl⟩
      · have h2 : 64 < b := by omega
        go_enter Try.func18, Try.ntmps18
        go_wp2_with fail
        go_ret
        exact ⟨by rw [hf.out]; rfl, rfl⟩

theorem extract_end (s : ByteArray) (_h : 8 < s.size) : (s.extract (s.size - 8) s.size).data.toList = last8 s.data.toList := by
  unfold last8
  rw [Lib.extract_to_end, show s.data.toList.length = s.size from Array.length_toList]
theorem size_list (s : ByteArray) : s.data.toList.length = s.size := Array.length_toList
theorem getElem_list (s : ByteArray) (j : Nat) (h : j < s.size) : s.data.toList[j]'(by rw [size_list]; exact h) = s[j] := rfl
theorem rget_bound (S : ByteArray) (j : Nat) (h : j < S.size) (h8 : S.size ≤ 8) : (getN (S.data.toList.take j)) < 72057594037927936 := by
  have h1 := getN_lt (S.data.toList.take j)
  have h2 : 256 ^ (S.data.toList.take j).length ≤ 256 ^ 7 := Nat.pow_le_pow_right (by omega) (by simp; omega)
  have h3 : (256 : Nat) ^ 7 = 72057594037927936 := by decide
  omega
theorem rget_step (S : ByteArray) (j : Nat) (h : j < S.size) (h8 : S.size ≤ 8) : IntKind.u64.wrap (IntKind.u64.wrap (256 * (getN (S.data.toList.take j) : Int)) + IntKind.u64.wrap ((S[j]).toNat : Int)) = (getN (S.data.toList.take (j + 1)) : Int) := by
  have hb := rget_bound S j h h8
  have hx := (S[j]).toNat_lt
  rw [wraps_u64 ((S[j]).toNat : Int) (by omega) (by omega), wraps_u64 (256 * (getN (S.data.toList.take j) : Int)) (by omega) (by omega), wraps_u64 _ (by omega) (by omega), List.take_succ_eq_append_getElem (by rw [size_list]; exact h), getN_snoc, getElem_list S j h]
  omega
theorem rget_any (s : ByteArray) (hs : s.size ≤ 9223372036854775807) (w : World) :
    Calls Try.prog 12 #[.string s] w fun e w' => e = .returned (.int .u64 (getN (last8 s.data.toList) : Int)) ∧ w = w' := by
  by_cases hbig : 8 < s.size
  · have hX := hide (extract_end s hbig)
    have hY : (s.extract (s.size - 8) s.size).size ≤ 8 := by simp [ByteArray.size_extract]; omega
    go_enter Try.func12, Try.ntmps12
    go_wp2
    generalize s.extract (s.size - 8) s.size = S at hX hY ⊢
    have hT := hide (show getN S.data.toList = getN (S.data.toList.take S.size) by rw [List.take_of_length_le (Nat.le_of_eq (size_list S))])
    go_loop [3, 4] (fun n i => ∃ j : Nat, j ≤ S.size ∧ i = .int .i64 j ∧ n = .int .u64 (getN (S.data.toList.take j) : Int)) (fun _ i => S.size - (intOf i).toNat)
    case atStart => exact ⟨0, by omega, rfl, rfl⟩
    case round =>
      obtain ⟨j, hj, rfl, rfl⟩ := hrel
      by_cases hlt : j < S.size
      · have hstep := hide (rget_step S j hlt hY)
        go_wp2
        go_round
        case rel => exact ⟨j + 1, by omega, by go_num, congrArg (Value.int .u64) hstep.out⟩
        case measure => simp [intOf]; omega
      · obtain rfl : j = S.size := by omega
        go_wp2
        go_ret
        exact ⟨by rw [← hX.out, hT.out]; rfl, rfl⟩
  · have hX := hide (show s.data.toList = last8 s.data.toList from (last8_short (by rw [size_list]; omega)).symm)
    have hY : s.size ≤ 8 := by omega
    go_enter Try.func12, Try.ntmps12
    go_wp2
    obtain ⟨S, rfl⟩ : ∃ S, S = s := ⟨s, rfl⟩
    have hT := hide (show getN S.data.toList = getN (S.data.toList.take S.size) by rw [List.take_of_length_le (Nat.le_of_eq (size_list S))])
    go_loop [3, 4] (fun n i => ∃ j : Nat, j ≤ S.size ∧ i = .int .i64 j ∧ n = .int .u64 (getN (S.data.toList.take j) : Int)) (fun _ i => S.size - (intOf i).toNat)
    case atStart => exact ⟨0, by omega, rfl, rfl⟩
    case round =>
      obtain ⟨j, hj, rfl, rfl⟩ := hrel
      by_cases hlt : j < S.size
      · have hstep := hide (rget_step S j hlt hY)
        go_wp2
        go_round
        case rel => exact ⟨j + 1, by omega, by go_num, congrArg (Value.int .u64) hstep.out⟩
        case measure => simp [intOf]; omega
      · obtain rfl : j = S.size := by omega
        go_wp2
        go_ret
        exact ⟨by rw [← hX.out, hT.out]; rfl, rfl⟩

/-- string([]byte{b}) -/
theorem one_byte (w : World) (q : Nat) : (convert 36 9 (.slice (some ⟨w.heap.size, 0, none⟩) 1 1)).run Try.prog (w.alloc (.cells #[.int .u8 ((q : Int) % 256)] 5)) = .ok (.string (bs [UInt8.ofNat (q % 256)])) (w.alloc (.cells #[.int .u8 ((q : Int) % 256)] 5)) := by
  refine conv_bytes _ _ _ _ _ [UInt8.ofNat (q % 256)] rfl (fun i hi => ?_)
  obtain rfl : i = 0 := by omega
  rw [World.cell?_alloc_new]
  simp
theorem rput_any (n : Int) (h0 : 0 ≤ n) (hn : n < 18446744073709551616) (b : Int) (hb : 1 ≤ b) (hb2 : b ≤ 8) (w : World) :
    Calls Try.prog 9 #[.int .u64 n, .int .i64 b] w fun e w' => e = .returned (.string (bs (putL n.toNat b.toNat))) ∧ Below w.heap.size w w' := by
  obtain ⟨d, rfl⟩ := Int.eq_ofNat_of_zero_le (show 0 ≤ b by omega)
  obtain ⟨n, rfl⟩ := Int.eq_ofNat_of_zero_le h0
  simp only [Int.toNat_natCast]
  have hN := hide (show n < 18446744073709551616 by omega)
  clear hn h0
  go_enter Try.func9, Try.ntmps9
  go_wp2
  go_loopw [0, 5, 6] (fun m s i wr => ∃ j : Nat, j ≤ d ∧ i = .int .i64 j ∧ m = .int .u64 ((n / 256 ^ j : Nat) : Int) ∧ s = .string (bs (putL n j)) ∧ Below w.heap.size w wr) (fun _ _ i _ => d - (intOf i).toNat)
  case atStart => exact ⟨0, by omega, rfl, by simp, rfl, Below.refl _ _⟩
  case round =>
    obtain ⟨j, hj, rfl, rfl, rfl, hbel⟩ := hrel
    by_cases hlt : j < d
    · have hq : n / 256 ^ j ≤ n := Nat.div_le_self _ _
      have hcv := one_byte wr (n / 256 ^ j)
      have hc := hide (putL_cons j n)
      have hd := hide (show n / 256 ^ j / 256 = n / 256 ^ (j + 1) by rw [Nat.div_div_eq_div_mul, Nat.pow_succ])
      have hsz : ¬ 9223372036854775807 < (bs [UInt8.ofNat (n / 256 ^ j % 256)]).size + (bs (putL n j)).size := by
        rw [bs_size, bs_size, putL_length]
        simp
        omega
      generalize n / 256 ^ j = q at hq hcv hc hd hsz ⊢
      have hv := hide (show IntKind.u64.wrap ((q : Int) / 256) = ((q / 256 : Nat) : Int) by
        have := hN.out
        rw [wraps_u64 _ (by omega) (by omega)]
        omega)
      go_wp2
      go_roundw
      case rel => exact ⟨j + 1, by omega, by go_num, by rw [hv.out, hd.out], by rw [hc.out, bs_append]; rfl, hbel.alloc hbel.size _⟩
      case measure => simp [intOf]; omega
    · obtain rfl : j = d := by omega
      go_wp2
      go_ret
      exact ⟨rfl, hbel⟩

theorem rput_no (n : Int) (b : Int) (h : b < 1 ∨ 8 < b) (w : World) :
    Calls Try.prog 9 #[.int .u64 n, .int .i64 b] w fun e w' => e = .returned (.string (bs [])) ∧ w = w' := by
  by_cases h1 : b < 1
  · go_enter Try.func9, Try.ntmps9
    go_wp2
    go_ret
    exact ⟨rfl, rfl⟩
  · have h2 : 8 < b := by omega
    go_enter Try.func9, Try.ntmps9
    go_wp2
    go_ret
    exact ⟨rfl, rfl⟩

theorem rput_all (n : Int) (h0 : 0 ≤ n) (hn : n ≤ 18446744073709551615) (wd : Int) (w : World) :
    Calls Try.prog 9 #[.int .u64 n, .int .i64 wd] w fun e w' => e = .returned (.string (bs (putS n wd))) ∧ Below w.heap.size w w' := by
  by_cases h : 1 ≤ wd ∧ wd ≤ 8
  · rw [putS, if_pos h]
    exact rput_any n h0 (by omega) wd h.1 h.2 w
  · rw [putS, if_neg h]
    exact (rput_no n wd (by omega) w).mono fun e w' ⟨he, hw⟩ => ⟨he, hw ▸ Below.refl _ _⟩
end Go.Proofs.Ytkfnicidoaikeaa
