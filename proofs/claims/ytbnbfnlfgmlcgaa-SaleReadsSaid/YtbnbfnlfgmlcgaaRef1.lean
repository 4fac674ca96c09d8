/-
  Layer 1, the document's answers (package tillrollref01) by contracts.
-/
import Derived.Test.YtbnbfnlfgmlcgaaBe
namespace Go.Proofs.Ytbnbfnlfgmlcgaa
set_option linter.unusedSimpArgs false
set_option linter.unusedVariables false
open Go.RowKit

theorem power_any (b : Int) (h0 : 0 ≤ b) (h1 : b ≤ 63) (w : World) :
    Calls Try.prog 67 #[.int .i64 b] w fun e w' => e = .returned (.int .u64 (pw b.toNat : Int)) ∧ w = w' := by
  obtain ⟨k, rfl⟩ := Int.eq_ofNat_of_zero_le h0
  simp only [Int.toNat_natCast]
  go_enter Try.func67, Try.ntmps67
  go_wp2
  go_loop [3, 4] (fun p i => ∃ j : Nat, j ≤ k ∧ i = .int .i64 j ∧ p = .int .u64 (pw j : Int)) (fun _ i => k - (intOf i).toNat)
  case atStart => exact ⟨0, by omega, rfl, rfl⟩
  case round =>
    obtain ⟨j, hj, rfl, rfl⟩ := hrel
    by_cases hlt : j < k
    · have hs := hide (pw_succ j)
      have hb : pw j ≤ 4611686018427387904 := pw_le (show j ≤ 62 by omega)
      go_wp2
      go_round
      case rel => exact ⟨j + 1, by omega, by go_num, by rw [hs.out]; go_num⟩
      case measure => simp [intOf]; omega
    · obtain rfl : j = k := by omega
      go_wp2
      go_ret
      exact ⟨rfl, rfl⟩

theorem rfits_any (n : Int) (h0 : 0 ≤ n) (hn : n < 18446744073709551616) (b : Int) (w : World) :
    Calls Try.prog 50 #[.int .u64 n, .int .i64 b] w fun e w' => e = .returned (.bool (fitsB n.toNat b)) ∧ w = w' := by
  by_cases h : 1 ≤ b ∧ b ≤ 7
  · obtain ⟨hb1, hb2⟩ := h
    have hb3 : b < 8 := by omega
    have hf := hide (show decide (n < (pw (8 * b).toNat : Int)) = fitsB n.toNat b by
      obtain ⟨d, rfl⟩ := Int.eq_ofNat_of_zero_le (show 0 ≤ b by omega)
      rw [show (8 * (d : Int)).toNat = 8 * d by omega, pw_256, Bool.eq_iff_iff]
      simp only [fitsB, Int.toNat_natCast, decide_eq_true_eq]
      omega)
    go_enter Try.func50, Try.ntmps50
    go_wp2_with (go_at_call 67; refine (power_any _ (by omega) (by omega) _).mono ?_; rintro e w' ⟨rfl, rfl⟩)
    go_ret
    exact ⟨by rw [← hf.out]; rfl, rfl⟩
  · by_cases h8 : b = 8
    · subst h8
      have hf := hide (show fitsB n.toNat 8 = true from decide_eq_true ⟨by omega, by omega, by
        have : (256 : Nat) ^ (8 : Int).toNat = 18446744073709551616 := by decide
        omega⟩)
      go_enter Try.func50, Try.ntmps50
      go_wp2_with fail
      go_ret
      exact ⟨by rw [hf.out]; rfl, rfl⟩
    · have hf := hide (show fitsB n.toNat b = false from decide_eq_false (by omega))
      by_cases h1 : b < 1
      · go_enter Try.func50, Try.ntmps50
        go_wp2_with fail
        go_ret
        exact ⟨by rw [hf.out]; rfl, rfl⟩
      · have h2 : 8 < b := by omega
        go_enter Try.func50, Try.ntmps50
        go_wp2_with fail
        go_ret
        exact ⟨by rw [hf.out]; rfl, rfl⟩

theorem rput_any (n : Int) (h0 : 0 ≤ n) (hn : n < 18446744073709551616) (b : Int) (hb : 1 ≤ b) (hb2 : b ≤ 8) (w : World) :
    Calls Try.prog 51 #[.int .u64 n, .int .i64 b] w fun e w' => e = .returned (.string (bs (putL n.toNat b.toNat))) ∧ Below w.heap.size w w' := by
  obtain ⟨d, rfl⟩ := Int.eq_ofNat_of_zero_le (show 0 ≤ b by omega)
  obtain ⟨n, rfl⟩ := Int.eq_ofNat_of_zero_le h0
  simp only [Int.toNat_natCast]
  have hN := hide (show n < 18446744073709551616 by omega)
  clear hn h0
  go_enter Try.func51, Try.ntmps51
  go_wp2
  go_loopw [0, 5, 6] (fun m s i wr => ∃ j : Nat, j ≤ d ∧ i = .int .i64 j ∧ m = .int .u64 ((n / 256 ^ j : Nat) : Int) ∧ s = .string (bs (putL n j)) ∧ Below w.heap.size w wr) (fun _ _ i _ => d - (intOf i).toNat)
  case atStart => exact ⟨0, by omega, rfl, by simp, rfl, Below.refl _ _⟩
  case round =>
    obtain ⟨j, hj, rfl, rfl, rfl, hbel⟩ := hrel
    by_cases hlt : j < d
    · have hq : n / 256 ^ j ≤ n := Nat.div_le_self _ _
      have hcv := one_byte wr (n / 256 ^ j)
      have hc := hide (putL_cons j n)
      have hd := hide (show n / 256 ^ j / 256 = n / 256 ^ (j + 1) by rw [Nat.div_div_eq_div_mul, Nat.pow_succ])
      have hsz : ¬ 9223372036854775807 < (bs [UInt8.ofNat (n / 256 ^ j % 256)]).size + (bs (putL n j)).size := by
        rw [bs_size, bs_size, putL_length]
        simp
        omega
      generalize n / 256 ^ j = q at hq hcv hc hd hsz ⊢
      have hv := hide (show IntKind.u64.wrap ((q : Int) / 256) = ((q / 256 : Nat) : Int) by
        have := hN.out
        rw [wraps_u64 _ (by omega) (by omega)]
        omega)
      go_wp2
      go_roundw
      case rel => exact ⟨j + 1, by omega, by go_num, by rw [hv.out, hd.out], by rw [hc.out, bs_append]; rfl, hbel.alloc hbel.size _⟩
      case measure => simp [intOf]; omega
    · obtain rfl : j = d := by omega
      go_wp2
      go_ret
      exact ⟨rfl, hbel⟩

theorem rput_no (n : Int) (b : Int) (h : b < 1 ∨ 8 < b) (w : World) :
    Calls Try.prog 51 #[.int .u64 n, .int .i64 b] w fun e w' => e = .returned (.string (bs [])) ∧ w = w' := by
  by_cases h1 : b < 1
  · go_enter Try.func51, Try.ntmps51
    go_wp2
    go_ret
    exact ⟨rfl, rfl⟩
  · have h2 : 8 < b := by omega
    go_enter Try.func51, Try.ntmps51
    go_wp2
    go_ret
    exact ⟨rfl, rfl⟩

theorem rput_all (n : Int) (h0 : 0 ≤ n) (hn : n ≤ 18446744073709551615) (wd : Int) (w : World) :
    Calls Try.prog 51 #[.int .u64 n, .int .i64 wd] w fun e w' => e = .returned (.string (bs (putS n wd))) ∧ Below w.heap.size w w' := by
  by_cases h : 1 ≤ wd ∧ wd ≤ 8
  · rw [putS, if_pos h]
    exact rput_any n h0 (by omega) wd h.1 h.2 w
  · rw [putS, if_neg h]
    exact (rput_no n wd (by omega) w).mono fun e w' ⟨he, hw⟩ => ⟨he, hw ▸ Below.refl _ _⟩
end Go.Proofs.Ytbnbfnlfgmlcgaa
