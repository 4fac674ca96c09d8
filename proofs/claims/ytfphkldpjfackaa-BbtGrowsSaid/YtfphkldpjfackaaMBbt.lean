/-
  Layer 9, plain: a table of bad blocks, bit by bit.
-/
import Derived.Test.YtfphkldpjfackaaKitT
import Derived.Laws.CopyRow
namespace Go.Proofs.Ytfphkldpjfackaa
set_option linter.unusedSimpArgs false
set_option linter.unusedVariables false

/-- is a block's bit set? -/
def hasB (L : List UInt8) (k : Nat) : Bool := (L.getD (k / 8) 0).toNat.testBit (7 - k % 8)
/-- the byte with the bit set -/
def orU (x : UInt8) (i : Nat) : UInt8 := UInt8.ofNat (x.toNat ||| 2 ^ i)
def withB (L : List UInt8) (k : Nat) : List UInt8 := L.set (k / 8) (orU (L.getD (k / 8) 0) (7 - k % 8))
theorem orU_nat (x : UInt8) (i : Nat) (hi : i < 8) : (orU x i).toNat = x.toNat ||| 2 ^ i := by
  have h1 : 2 ^ i < 2 ^ 8 := Nat.pow_lt_pow_right (by omega) hi
  have h2 : x.toNat ||| 2 ^ i < 2 ^ 8 := Nat.or_lt_two_pow x.toNat_lt h1
  unfold orU
  rw [UInt8.toNat_ofNat']
  exact Nat.mod_eq_of_lt h2
theorem withB_length (L : List UInt8) (k : Nat) : (withB L k).length = L.length := by simp [withB]
theorem withB_has (L : List UInt8) (k j : Nat) (hk : k / 8 < L.length) : hasB (withB L k) j = (decide (j = k) || hasB L j) := by
  unfold hasB withB
  by_cases h : k / 8 = j / 8
  · have e : (L.set (k / 8) (orU (L.getD (k / 8) 0) (7 - k % 8))).getD (j / 8) 0 = orU (L.getD (k / 8) 0) (7 - k % 8) := by
      rw [h]; simp only [List.getD]; rw [List.getElem?_set_self (by omega)]; rfl
    rw [e, orU_nat _ _ (by omega), Nat.testBit_or, Nat.testBit_two_pow, h, Bool.or_comm]
    congr 1
    rw [Bool.eq_iff_iff, decide_eq_true_eq, decide_eq_true_eq]
    omega
  · have e : (L.set (k / 8) (orU (L.getD (k / 8) 0) (7 - k % 8))).getD (j / 8) 0 = L.getD (j / 8) 0 := by
      simp only [List.getD]; rw [List.getElem?_set_ne h]
    rw [e]
    have : ¬ j = k := fun e => h (by rw [e])
    simp [this]
def zeros32 : List UInt8 := List.replicate 32 0
theorem zeros_has (k : Nat) : hasB zeros32 k = false := by
  unfold hasB
  have : zeros32.getD (k / 8) 0 = 0 := by
    simp only [zeros32, List.getD, List.getElem?_replicate]
    split <;> rfl
  rw [this]
  simp
/-- a bit as a number -/
def bitZ (k : Nat) : Int := ((2 ^ (7 - k % 8) : Nat) : Int)
theorem bitZ_bd (k : Nat) : 1 ≤ bitZ k ∧ bitZ k ≤ 128 := by
  unfold bitZ
  have h : 7 - k % 8 ≤ 7 := by omega
  have h2 : 2 ^ (7 - k % 8) ≤ 2 ^ 7 := Nat.pow_le_pow_right (by omega) h
  have h3 : 0 < 2 ^ (7 - k % 8) := Nat.pow_pos (by omega)
  omega
theorem and_bit (x : UInt8) (k : Nat) : (bits .and .u8 (x.toNat : Int) (bitZ k) == 0) = !(x.toNat.testBit (7 - k % 8)) := by
  have hx := x.toNat_lt
  have h2 : 2 ^ (7 - k % 8) ≤ 2 ^ 7 := Nat.pow_le_pow_right (by omega) (by omega)
  have h := (bits_nat .u8 8 (by decide) wraps_u8 x.toNat (2 ^ (7 - k % 8)) (by omega) (by omega)).1
  unfold bitZ
  rw [h]
  generalize 7 - k % 8 = i at *
  cases hb : x.toNat.testBit i
  · have : x.toNat &&& 2 ^ i = 0 := by
      apply Nat.eq_of_testBit_eq
      intro j
      rw [Nat.testBit_and, Nat.testBit_two_pow, Nat.zero_testBit]
      by_cases e : i = j
      · subst e; rw [hb]; rfl
      · simp [e]
    rw [this]
    rfl
  · have : x.toNat &&& 2 ^ i ≠ 0 := by
      intro e
      have h3 := congrArg (fun y => y.testBit i) e
      simp [Nat.testBit_and, hb] at h3
    simp only [Bool.not_true, beq_eq_false_iff_ne]
    omega
theorem or_bit (x : UInt8) (k : Nat) : bits .or .u8 (x.toNat : Int) (bitZ k) = ((orU x (7 - k % 8)).toNat : Int) := by
  have hx := x.toNat_lt
  have h2 : 2 ^ (7 - k % 8) ≤ 2 ^ 7 := Nat.pow_le_pow_right (by omega) (by omega)
  have h := (bits_nat .u8 8 (by decide) wraps_u8 x.toNat (2 ^ (7 - k % 8)) (by omega) (by omega)).2
  unfold bitZ
  rw [h, orU_nat _ _ (by omega)]
/-- a table's cells -/
def bbtC (v n : Int) (L : List UInt8) : Array Value := (Value.int .u64 v :: Value.int .i64 n :: L.map fun b => Value.int .u8 (b.toNat : Int)).toArray
theorem bbtC_size (v n : Int) (L : List UInt8) (h : L.length = 32) : (bbtC v n L).size = 34 := by simp [bbtC, h]
theorem bbtC_0 (v n : Int) (L : List UInt8) : (bbtC v n L)[0]? = some (.int .u64 v) := by simp [bbtC]
theorem bbtC_1 (v n : Int) (L : List UInt8) : (bbtC v n L)[1]? = some (.int .i64 n) := by simp [bbtC]
theorem bbtC_at (v n : Int) (L : List UInt8) (i : Nat) (h : i < L.length) : (bbtC v n L)[2 + i]? = some (.int .u8 ((L.getD i 0).toNat : Int)) := by
  simp [bbtC, List.getElem?_cons, show 2 + i = i + 1 + 1 by omega, List.getD, h]
theorem bbtC_one (v n : Int) (L : List UInt8) : (bbtC v n L).all (·.oneCell') = true := by
  simp [bbtC, Value.oneCell', Array.all_eq_true]
theorem bbtC_set (v n : Int) (L : List UInt8) (i : Nat) (x : UInt8) (h : i < L.length) : (bbtC v n L).setIfInBounds (2 + i) (.int .u8 (x.toNat : Int)) = bbtC v n (L.set i x) := by
  unfold bbtC
  rw [show 2 + i = i + 1 + 1 by omega]
  simp [List.map_set]
theorem bbtC_copy (v n v' n' : Int) (L M : List UInt8) (hL : L.length = 32) (hM : M.length = 32) :
    ((bbtC v n L).toList.take 2 ++ M.map (fun b => Value.int .u8 (b.toNat : Int)) ++ (bbtC v n L).toList.drop (2 + (M.map (fun b => Value.int .u8 (b.toNat : Int))).length)).toArray = bbtC v n M := by
  unfold bbtC
  rw [List.length_map, hM, List.drop_eq_nil_of_le (by simp [hL]), List.append_nil]
  simp
/-- the bad blocks, rising -/
def badL (L : List UInt8) (n : Nat) : List Int := ((List.range n).filter (hasB L)).map (fun k : Nat => (k : Int))
theorem badL_next (L : List UInt8) (k : Nat) : badL L (k + 1) = badL L k ++ if hasB L k = true then [(k : Int)] else [] := by
  unfold badL
  rw [List.range_succ, List.filter_append, List.map_append]
  congr 1
  by_cases h : hasB L k = true
  · simp [h]
  · simp [h]
theorem badL_le (L : List UInt8) (n : Nat) : (badL L n).length ≤ n := by
  unfold badL
  rw [List.length_map]
  refine Nat.le_trans (List.length_filter_le _ _) ?_
  simp
theorem badL_same (L M : List UInt8) (n : Nat) (h : ∀ k, k < n → hasB L k = hasB M k) : badL L n = badL M n := by
  unfold badL
  congr 1
  refine List.filter_congr (fun k hk => h k ?_)
  simpa using hk
end Go.Proofs.Ytfphkldpjfackaa
