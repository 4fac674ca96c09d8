/-
  Layer 2, the document's answers (package tillrollref02) by contracts.
-/
import Derived.Test.YtdjaldkjpmcbdaaPoly
namespace Go.Proofs.Ytdjaldkjpmcbdaa
set_option linter.unusedSimpArgs false
set_option linter.unusedVariables false
open Go.RowKit

/-! plain -/
theorem xor_next (a b i : Nat) : (a ^^^ b) % 2 ^ (i + 1) = (a ^^^ b) % 2 ^ i + (if a / 2 ^ i % 2 = b / 2 ^ i % 2 then 0 else 2 ^ i) := by
  rw [Nat.mod_pow_succ]
  congr 1
  have h : ∀ x : Nat, x / 2 ^ i % 2 = (x.testBit i).toNat := by
    intro x
    rw [Nat.testBit_eq_decide_div_mod_eq]
    by_cases h : x / 2 ^ i % 2 = 1
    · simp [h]
    · have : x / 2 ^ i % 2 = 0 := by omega
      simp [this]
  rw [h, h, h, Nat.testBit_xor]
  cases a.testBit i <;> cases b.testBit i <;> simp
def xN (a b i : Nat) : Nat := (a ^^^ b) % 2 ^ i
theorem xN_0 (a b : Nat) : xN a b 0 = 0 := by simp [xN, Nat.mod_one]
theorem xN_lt (a b i : Nat) : xN a b i < 2 ^ i := Nat.mod_lt _ (Nat.pow_pos (by omega))
theorem xN_32 (a b : Nat) (ha : a < 4294967296) (hb : b < 4294967296) : xN a b 32 = a ^^^ b := by
  have h : a ^^^ b < 2 ^ 32 := Nat.xor_lt_two_pow (by omega) (by omega)
  exact Nat.mod_eq_of_lt h
theorem stepB_nat (s : St) (c : Bool) : (stepB s c).toNat = if s.toNat / 2147483648 = c.toNat then 2 * s.toNat % 4294967296 else (2 * s.toNat % 4294967296) ^^^ 79764919 := by
  have hs := s.isLt
  have e : stepB s c = (s <<< 1) ^^^ (if s.msb ^^ c then feed else 0#32) := by
    have hm : (s ^^^ top c).msb = (s.msb ^^ c) := by
      rw [BitVec.msb_xor]
      cases c
      · simp [top]
      · rw [show (top true).msb = true from by decide]
    have ht : (s ^^^ top c) <<< 1 = s <<< 1 := by
      rw [BitVec.shiftLeft_xor_distrib]
      cases c <;> simp [top]
    unfold stepB T
    rw [hm, ht]
  have hm : s.msb = decide (2147483648 ≤ s.toNat) := by rw [BitVec.msb_eq_decide]
  have e2 : (s <<< 1).toNat = 2 * s.toNat % 4294967296 := by rw [BitVec.toNat_shiftLeft, Nat.shiftLeft_eq]; congr 1; omega
  rw [e, BitVec.toNat_xor, e2, hm]
  by_cases h : 2147483648 ≤ s.toNat
  · rw [show s.toNat / 2147483648 = 1 by omega]; cases c <;> simp [h, feed]
  · rw [show s.toNat / 2147483648 = 0 by omega]; cases c <;> simp [h, feed]
theorem bit_of (x : UInt8) (j : Nat) (hj : j < 8) : x.toNat * 2 ^ j % 256 / 128 = ((bitsU x)[j]'(by simpa [bitsU] using hj)).toNat := by
  have h : ∀ (y : BitVec 8) (k : Fin 8), y.toNat * 2 ^ k.val % 256 / 128 = ((bitsU ⟨y⟩)[k.val]'(by simp [bitsU])).toNat := by decide +kernel
  exact h x.toBitVec ⟨j, hj⟩
def kS (s : St) (x : UInt8) (j : Nat) : St := stepsB s ((bitsU x).take j)
theorem kS_next (s : St) (x : UInt8) (j : Nat) (hj : j < 8) : kS s x (j + 1) = stepB (kS s x j) ((bitsU x)[j]'(by simpa [bitsU] using hj)) := by
  unfold kS
  rw [List.take_succ_eq_append_getElem (by simpa [bitsU] using hj), steps_append]
  rfl
theorem kS_8 (s : St) (x : UInt8) : kS s x 8 = moreS s [x] := by
  unfold kS moreS
  rw [List.take_of_length_le (by simp [bitsU])]
  simp [bitsL]
attribute [irreducible] xN kS
attribute [local irreducible] stepB

/-! walks -/
set_option maxRecDepth 20000 in
set_option maxHeartbeats 1000000 in
theorem xor_any (a b : Nat) (ha : a < 4294967296) (hb : b < 4294967296) (w : World) :
    Calls Try.prog 34 #[.int .u64 (a : Int), .int .u64 (b : Int)] w fun e w' => e = .returned (.int .u64 ((a ^^^ b : Nat) : Int)) ∧ w = w' := by
  have hx := hide (xN_32 a b ha hb)
  go_enter Try.func34, Try.ntmps34
  go_wp2
  go_loop [0, 1, 5, 6, 7] (fun u v n p i => ∃ j : Nat, j ≤ 32 ∧ i = .int .i64 j ∧ u = .int .u64 ((a / pw j : Nat) : Int) ∧ v = .int .u64 ((b / pw j : Nat) : Int) ∧ n = .int .u64 (xN a b j : Int) ∧ p = .int .u64 (pw j : Int)) (fun _ _ _ _ i => 32 - (intOf i).toNat)
  case atStart => exact ⟨0, by omega, rfl, by simp [pw], by simp [pw], by rw [xN_0]; rfl, rfl⟩
  case round =>
    obtain ⟨j, hj, rfl, rfl, rfl, rfl, rfl⟩ := hrel
    by_cases hlt : j < 32
    · have hn := xN_lt a b j
      have hp : pw j ≤ 2147483648 := pw_le (show j ≤ 31 by omega)
      have hxn : xN a b j < pw j := hn
      have hs1 := hide (pw_succ j)
      have hs2 := hide (show xN a b (j + 1) = xN a b j + (if a / pw j % 2 = b / pw j % 2 then 0 else pw j) by unfold xN pw; exact xor_next a b j)
      have hda := hide (show a / pw (j + 1) = a / pw j / 2 by rw [Nat.div_div_eq_div_mul, pw_succ, Nat.mul_comm])
      have hdb := hide (show b / pw (j + 1) = b / pw j / 2 by rw [Nat.div_div_eq_div_mul, pw_succ, Nat.mul_comm])
      have hA : a / pw j ≤ a := Nat.div_le_self _ _
      have hB : b / pw j ≤ b := Nat.div_le_self _ _
      clear hn
      generalize a / pw j = A at hA hs2 hda ⊢
      generalize b / pw j = B at hB hs2 hdb ⊢
      generalize xN a b j = X at hxn hs2 ⊢
      by_cases ht : A % 2 = B % 2
      · have hS := hide (show xN a b (j + 1) = X by rw [hs2.out, if_pos ht]; rfl)
        have ht' : (A : Int) % 2 = (B : Int) % 2 := by omega
        clear hs2 ht
        go_wp2
        go_round
        case rel => exact ⟨j + 1, by omega, by go_num, congrArg _ (by rw [hda.out]; rfl), congrArg _ (by rw [hdb.out]; rfl), by rw [hS.out], congrArg _ (by rw [hs1.out]; go_num)⟩
        case measure => simp [intOf]; omega
      · have hS := hide (show xN a b (j + 1) = X + pw j by rw [hs2.out, if_neg ht])
        have ht' : ¬ (A : Int) % 2 = (B : Int) % 2 := by omega
        clear hs2 ht
        go_wp2
        go_round
        case rel => exact ⟨j + 1, by omega, by go_num, congrArg _ (by rw [hda.out]; rfl), congrArg _ (by rw [hdb.out]; rfl), congrArg _ (by rw [hS.out]; go_num), congrArg _ (by rw [hs1.out]; go_num)⟩
        case measure => simp [intOf]; omega
    · obtain rfl : j = 32 := by omega
      go_wp2
      go_ret
      exact ⟨by rw [← hx.out]; rfl, rfl⟩

theorem xor_int (a b : Int) (a0 : 0 ≤ a) (ha : a < 4294967296) (b0 : 0 ≤ b) (hb : b < 4294967296) (w : World) :
    Calls Try.prog 34 #[.int .u64 a, .int .u64 b] w fun e w' => e = .returned (.int .u64 ((a.toNat ^^^ b.toNat : Nat) : Int)) ∧ w = w' := by
  obtain ⟨a, rfl⟩ := Int.eq_ofNat_of_zero_le a0
  obtain ⟨b, rfl⟩ := Int.eq_ofNat_of_zero_le b0
  exact xor_any a b (by omega) (by omega) w
set_option maxRecDepth 20000 in
theorem rstep_any (s : St) (c : Bool) (w : World) :
    Calls Try.prog 33 #[.int .u64 (s.toNat : Int), .int .u64 (c.toNat : Int)] w fun e w' => e = .returned (.int .u64 ((stepB s c).toNat : Int)) ∧ w = w' := by
  have hs := s.isLt
  have h := hide (stepB_nat s c)
  generalize (stepB s c).toNat = r at h ⊢
  generalize s.toNat = n at hs h ⊢
  have hc : c.toNat ≤ 1 := by cases c <;> simp
  generalize c.toNat = d at hc h ⊢
  by_cases ht : n / 2147483648 = d
  · have ht' : (n : Int) / 2147483648 = (d : Int) := by omega
    have hr := hide (show r = 2 * n % 4294967296 by rw [h.out, if_pos ht])
    clear h ht
    go_enter Try.func33, Try.ntmps33
    go_wp2
    go_ret
    exact ⟨ret_int (by rw [hr.out]; omega), rfl⟩
  · have ht' : ¬ (n : Int) / 2147483648 = (d : Int) := by omega
    have hr := hide (show r = 2 * n % 4294967296 ^^^ 79764919 by rw [h.out, if_neg ht])
    clear h ht
    go_enter Try.func33, Try.ntmps33
    go_wp2_with (go_at_call 34; ((with_reducible refine (xor_int _ _ (by omega) (by omega) (by omega) (by omega) _).mono ?_); rintro e w' ⟨rfl, rfl⟩))
    go_ret
    exact ⟨ret_int (by rw [hr.out, show (2 * (n : Int) % 4294967296).toNat = 2 * n % 4294967296 by omega]), rfl⟩
theorem rstep_int (s : St) (c : Bool) (t u : Int) (ht : t = (s.toNat : Int)) (hu : u = (c.toNat : Int)) (w : World) :
    Calls Try.prog 33 #[.int .u64 t, .int .u64 u] w fun e w' => e = .returned (.int .u64 ((stepB s c).toNat : Int)) ∧ w = w' := by
  subst ht hu
  exact rstep_any s c w

/-- the state behind j bits of a byte, as a number -/
def kN (s : St) (x : UInt8) (j : Nat) : Nat := (kS s x j).toNat
theorem kN_lt (s : St) (x : UInt8) (j : Nat) : kN s x j < 4294967296 := (kS s x j).isLt
theorem kN_0 (s : St) (x : UInt8) : kN s x 0 = s.toNat := by unfold kN kS; rfl
theorem kN_8 (s : St) (x : UInt8) : kN s x 8 = (moreS s [x]).toNat := by unfold kN; rw [kS_8]
theorem kN_next (s : St) (x : UInt8) (j : Nat) (hj : j < 8) (w : World) :
    Calls Try.prog 33 #[.int .u64 (kN s x j : Int), .int .u64 (((x.toNat * 2 ^ j % 256 : Nat) : Int) / 128)] w fun e w' => e = .returned (.int .u64 (kN s x (j + 1) : Int)) ∧ w = w' := by
  have h := rstep_int (kS s x j) ((bitsU x)[j]'(by simpa [bitsU] using hj)) (kN s x j : Int) (((x.toNat * 2 ^ j % 256 : Nat) : Int) / 128) rfl (by rw [← bit_of x j hj]; omega) w
  rw [← kS_next s x j hj] at h
  exact h
/-- the byte, moved up by j bits -/
def upN (x : UInt8) (j : Nat) : Nat := x.toNat * 2 ^ j % 256
theorem upN_0 (x : UInt8) : upN x 0 = x.toNat := by unfold upN; have := x.toNat_lt; omega
theorem upN_lt (x : UInt8) (j : Nat) : upN x j < 256 := Nat.mod_lt _ (by omega)
theorem upN_next (x : UInt8) (j : Nat) : upN x (j + 1) = 2 * upN x j % 256 := by unfold upN; rw [Nat.pow_succ, ← Nat.mul_assoc]; omega
theorem step_next (s : St) (x : UInt8) (j : Nat) (hj : j < 8) (w : World) :
    Calls Try.prog 33 #[.int .u64 (kN s x j : Int), .int .u64 ((upN x j : Int) / 128)] w fun e w' => e = .returned (.int .u64 (kN s x (j + 1) : Int)) ∧ w = w' := kN_next s x j hj w
attribute [irreducible] kN upN

theorem mN_def (s : St) (l : List UInt8) : mN s l = (moreS s l).toNat := by unfold mN; rfl
/-- the state behind a part of a text -/
def sAt (s : St) (l : ByteArray) (j : Nat) : St := moreS s (l.data.toList.take j)
theorem sAt_next (s : St) (l : ByteArray) (j : Nat) (h : j < l.size) : moreS (sAt s l j) [l[j]] = sAt s l (j + 1) := by
  unfold sAt
  rw [List.take_succ_eq_append_getElem (by rw [size_list]; exact h), more_append, getElem_list l j h]
theorem sAt_end (s : St) (l : ByteArray) : sAt s l l.size = moreS s l.data.toList := by unfold sAt; rw [List.take_of_length_le (Nat.le_of_eq (size_list l))]
attribute [irreducible] sAt

set_option maxRecDepth 20000 in
set_option maxHeartbeats 1000000 in
theorem rmore_any (s : St) (l : ByteArray) (hl : l.size ≤ 9223372036854775807) (w : World) :
    Calls Try.prog 26 #[.int .u64 (s.toNat : Int), .string l] w fun e w' => e = .returned (.int .u64 (mN s l.data.toList : Int)) ∧ w = w' := by
  have e0 : Value.int .u64 (s.toNat : Int) = .int .u64 ((sAt s l 0).toNat : Int) := by unfold sAt; rfl
  rw [e0]
  clear e0
  go_enter Try.func26, Try.ntmps26
  go_wp2
  go_loop [0, 5] (fun t i => ∃ j : Nat, j ≤ l.size ∧ i = .int .i64 j ∧ t = .int .u64 ((sAt s l j).toNat : Int)) (fun _ i => l.size - (intOf i).toNat)
  case atStart => exact ⟨0, by omega, rfl, rfl⟩
  case round =>
    obtain ⟨j, hj, rfl, rfl⟩ := hrel
    by_cases hlt : j < l.size
    · have hs := sAt_next s l j hlt
      generalize sAt s l j = S at hs ⊢
      have hS := hide hs
      clear hs
      have e0 : Value.int .u64 (S.toNat : Int) = .int .u64 (kN S l[j] 0 : Int) := by rw [kN_0]
      rw [e0]
      clear e0
      go_wp2
      go_loop [0, 6, 7] (fun t u i => ∃ k : Nat, k ≤ 8 ∧ i = .int .i64 k ∧ t = .int .u64 (kN S l[j] k : Int) ∧ u = .int .u64 (upN l[j] k : Int)) (fun _ _ i => 8 - (intOf i).toNat)
      case atStart => exact ⟨0, by omega, rfl, rfl, congrArg _ (by rw [upN_0]; have := (l[j]).toNat_lt; exact wraps_u64 _ (by omega) (by omega))⟩
      case round =>
        obtain ⟨k, hk, rfl, rfl, rfl⟩ := hrel
        by_cases hk8 : k < 8
        · have hu := upN_lt l[j] k
          have hn := hide (upN_next l[j] k)
          go_wp2_with (go_at_call 33; ((with_reducible refine (step_next _ _ _ hk8 _).mono ?_); rintro e w' ⟨rfl, rfl⟩))
          go_round
          case rel => exact ⟨k + 1, by omega, by go_num, rfl, congrArg _ (by rw [hn.out]; omega)⟩
          case measure => simp [intOf]; omega
        · obtain rfl : k = 8 := by omega
          have h8 := hide (kN_8 S l[j])
          go_wp2
          go_round
          case rel => exact ⟨j + 1, by omega, by go_num, congrArg _ (by rw [h8.out, hS.out])⟩
          case measure => simp [intOf]; omega
    · obtain rfl : j = l.size := by omega
      have he := hide (sAt_end s l)
      go_wp2
      go_ret
      exact ⟨ret_int (by rw [he.out, mN_def]), rfl⟩

theorem rmore_int (t : Int) (t0 : 0 ≤ t) (t1 : t < 4294967296) (l : ByteArray) (hl : l.size ≤ 9223372036854775807) (w : World) :
    Calls Try.prog 26 #[.int .u64 t, .string l] w fun e w' => e = .returned (.int .u64 (mN (BitVec.ofNat 32 t.toNat) l.data.toList : Int)) ∧ w = w' := by
  have h := rmore_any (BitVec.ofNat 32 t.toNat) l hl w
  rwa [show (((BitVec.ofNat 32 t.toNat).toNat : Nat) : Int) = t by rw [BitVec.toNat_ofNat]; omega] at h
theorem rlast_any (n : Int) (h0 : 0 ≤ n) (h1 : n ≤ 4294967295) (w : World) : Calls Try.prog 27 #[.int .u64 n] w fun e w' => e = .returned (.int .u64 (4294967295 - n)) ∧ w = w' := by
  go_enter Try.func27, Try.ntmps27
  go_wp2
  go_ret
  exact ⟨rfl, rfl⟩
theorem rsum_any (l : ByteArray) (hl : l.size ≤ 9223372036854775807) (w : World) :
    Calls Try.prog 21 #[.string l] w fun e w' => e = .returned (.int .u64 (cN l.data.toList : Int)) ∧ w = w' := by
  have hm := mN_lt firstS l.data.toList
  have he := hide (show (4294967295 : Int) - (mN firstS l.data.toList : Int) = (cN l.data.toList : Int) by unfold cN; omega)
  have hM := hide (fun W : World => rmore_any firstS l hl W)
  rw [show ((firstS.toNat : Nat) : Int) = 4294967295 from rfl] at hM
  generalize mN firstS l.data.toList = m at hm he hM
  go_enter Try.func21, Try.ntmps21
  go_wp2_with (first | (go_at_call 26; ((with_reducible refine (hM.out _).mono ?_); rintro e w' ⟨rfl, rfl⟩)) | (go_at_call 27; ((with_reducible refine (rlast_any _ (by omega) (by omega) _).mono ?_); rintro e w' ⟨rfl, rfl⟩)))
  go_ret
  exact ⟨by rw [← he.out]; rfl, rfl⟩
end Go.Proofs.Ytdjaldkjpmcbdaa
