/-
  Plain mathematics of layer 1: the bytes of a number, the number of bytes, fits, signs.
-/
import Derived.WalkKit
namespace Go.Proofs.Ytbnbfnlfgmlcgaa
set_option linter.unusedSimpArgs false
set_option linter.unusedVariables false

/-- the bytes of a number in a width, most significant first -/
def putL (n : Nat) : Nat → List UInt8
  | 0 => []
  | k + 1 => putL (n / 256) k ++ [UInt8.ofNat (n % 256)]
def bs (l : List UInt8) : ByteArray := ⟨l.toArray⟩
def getN (l : List UInt8) : Nat := l.foldl (fun n b => n * 256 + b.toNat) 0
def last8 (l : List UInt8) : List UInt8 := l.drop (l.length - 8)

theorem bs_toList (l : List UInt8) : (bs l).data.toList = l := rfl
theorem bs_size (l : List UInt8) : (bs l).size = l.length := rfl
theorem bs_of (s : ByteArray) : bs s.data.toList = s := rfl
theorem bs_append (a b : List UInt8) : bs a ++ bs b = bs (a ++ b) := by
  apply ByteArray.ext
  simp [bs]
theorem bs_inj {a b : List UInt8} (h : bs a = bs b) : a = b := by
  have := congrArg (fun s : ByteArray => s.data.toList) h
  simpa [bs] using this

@[simp] theorem putL_length : ∀ (k n : Nat), (putL n k).length = k
  | 0, _ => rfl
  | k + 1, n => by simp [putL, putL_length k]

theorem pow256 (k : Nat) : 0 < 256 ^ k := Nat.pow_pos (by omega)

theorem putL_add : ∀ (m k n : Nat), putL n (k + m) = putL (n / 256 ^ m) k ++ putL n m
  | 0, k, n => by simp [putL]
  | m + 1, k, n => by
    rw [show k + (m + 1) = (k + m) + 1 from rfl]
    simp only [putL]
    rw [putL_add m k (n / 256), Nat.div_div_eq_div_mul, ← Nat.pow_succ', List.append_assoc]

theorem putL_cons (k n : Nat) : putL n (k + 1) = UInt8.ofNat (n / 256 ^ k % 256) :: putL n k := by
  rw [show k + 1 = 1 + k by omega, putL_add]
  simp [putL]

theorem getN_snoc (l : List UInt8) (b : UInt8) : getN (l ++ [b]) = getN l * 256 + b.toNat := by simp [getN]
theorem foldl_get (l : List UInt8) : ∀ a : Nat, l.foldl (fun n b => n * 256 + b.toNat) a = a * 256 ^ l.length + getN l := by
  induction l with
  | nil => intro a; simp [getN]
  | cons b l ih =>
    intro a
    have h0 := ih (0 * 256 + b.toNat)
    simp only [List.foldl_cons, getN, List.length_cons] at *
    rw [ih, h0, Nat.pow_succ]
    generalize 256 ^ l.length = p
    rw [Nat.add_mul, Nat.mul_assoc, Nat.mul_comm 256 p]
    simp only [Nat.zero_mul, Nat.zero_add]
    omega
theorem getN_append (a b : List UInt8) : getN (a ++ b) = getN a * 256 ^ b.length + getN b := by
  unfold getN; rw [List.foldl_append, foldl_get]; rfl
theorem getN_cons (b : UInt8) (l : List UInt8) : getN (b :: l) = b.toNat * 256 ^ l.length + getN l := by
  have := getN_append [b] l
  simpa [getN] using this
theorem getN_lt (l : List UInt8) : getN l < 256 ^ l.length := by
  induction l with
  | nil => simp [getN]
  | cons b l ih =>
    rw [getN_cons, List.length_cons, Nat.pow_succ]
    have := b.toNat_lt
    have h : b.toNat * 256 ^ l.length ≤ 255 * 256 ^ l.length := Nat.mul_le_mul_right _ (by omega)
    omega
theorem getN_zeros (k : Nat) (l : List UInt8) : getN (List.replicate k 0 ++ l) = getN l := by
  rw [getN_append]
  have : getN (List.replicate k 0) = 0 := by
    induction k with
    | zero => rfl
    | succ k ih => rw [List.replicate_succ, getN_cons, ih]; simp
  rw [this]; omega

theorem getN_putL : ∀ (k n : Nat), getN (putL n k) = n % 256 ^ k
  | 0, n => by simp [putL, getN, Nat.mod_one]
  | k + 1, n => by
    rw [putL, getN_snoc, getN_putL k]
    have h : (UInt8.ofNat (n % 256)).toNat = n % 256 := by simp
    rw [h, Nat.pow_succ, Nat.mul_comm (256 ^ k) 256, Nat.mod_mul]
    omega
theorem putL_getN (l : List UInt8) : putL (getN l) l.length = l := by
  generalize hl : l.reverse = r
  obtain rfl : l = r.reverse := by rw [← hl, List.reverse_reverse]
  clear hl
  induction r with
  | nil => rfl
  | cons b r ih =>
    rw [List.reverse_cons, getN_snoc, List.length_append]
    simp only [List.length_cons, List.length_nil, putL]
    have hb := b.toNat_lt
    rw [show (getN r.reverse * 256 + b.toNat) / 256 = getN r.reverse by omega, show (getN r.reverse * 256 + b.toNat) % 256 = b.toNat by omega, ih]
    simp
theorem last8_length (l : List UInt8) : (last8 l).length ≤ 8 := by simp [last8]; omega
theorem last8_short {l : List UInt8} (h : l.length ≤ 8) : last8 l = l := by simp [last8, Nat.sub_eq_zero_of_le h]
theorem getN_last8_lt (l : List UInt8) : getN (last8 l) < 18446744073709551616 := by
  have h := getN_lt (last8 l)
  have h2 : 256 ^ (last8 l).length ≤ 256 ^ 8 := Nat.pow_le_pow_right (by omega) (last8_length l)
  have : (256 : Nat) ^ 8 = 18446744073709551616 := by decide
  omega
theorem putL_mod (k n : Nat) : putL (n % 256 ^ k) k = putL n k := by
  rw [← getN_putL]
  have := putL_getN (putL n k)
  rwa [putL_length] at this

theorem less_get : ∀ (x y : List UInt8), x.length = y.length → Op.bytesLess x y = decide (getN x < getN y)
  | [], [], _ => by simp [Op.bytesLess]
  | [], _ :: _, h => by simp at h
  | _ :: _, [], h => by simp at h
  | a :: x, b :: y, h => by
    have hl : x.length = y.length := by simpa using h
    have hx := getN_lt x
    have hy := getN_lt y
    rw [Op.bytesLess, less_get x y hl, getN_cons, getN_cons, hl, Bool.eq_iff_iff]
    rw [hl] at hx
    simp only [Bool.or_eq_true, Bool.and_eq_true, decide_eq_true_eq, beq_iff_eq, UInt8.lt_iff_toNat_lt, ← UInt8.toNat_inj]
    generalize 256 ^ y.length = p at *
    generalize getN x = X at *
    generalize getN y = Y at *
    generalize a.toNat = A
    generalize b.toNat = B
    constructor
    · rintro (h | ⟨rfl, h⟩)
      · have : (A + 1) * p ≤ B * p := Nat.mul_le_mul_right p h
        rw [Nat.add_mul] at this
        omega
      · omega
    · intro h
      rcases Nat.lt_trichotomy A B with h' | h' | h'
      · exact .inl h'
      · subst h'; exact .inr ⟨rfl, by omega⟩
      · exfalso
        have : (B + 1) * p ≤ A * p := Nat.mul_le_mul_right p h'
        rw [Nat.add_mul] at this
        omega

/-! Fits, Sign, Wide -/
def fitsB (n : Nat) (w : Int) : Bool := decide (1 ≤ w ∧ w ≤ 8 ∧ n < 256 ^ w.toNat)
/-- the lowest k bits as a number with a sign -/
def signZ (n : Nat) (k : Nat) : Int := if 2 * (n % 2 ^ k) < 2 ^ k then ((n % 2 ^ k : Nat) : Int) else ((n % 2 ^ k : Nat) : Int) - 2 ^ k
def signI (n : Nat) (b : Int) : Int := if 1 ≤ b ∧ b ≤ 64 then signZ n b.toNat else 0
def wideB (n : Int) (b : Int) : Bool := decide (1 ≤ b ∧ b ≤ 64 ∧ -(2 ^ (b.toNat - 1)) ≤ n ∧ n < 2 ^ (b.toNat - 1))

theorem signZ_range (n k : Nat) (hk : 1 ≤ k) : -(2 ^ (k - 1) : Int) ≤ signZ n k ∧ signZ n k < 2 ^ (k - 1) := by
  unfold signZ
  obtain ⟨j, rfl⟩ : ∃ j, k = j + 1 := ⟨k - 1, by omega⟩
  have hp : 0 < 2 ^ j := Nat.pow_pos (by omega)
  have hm := Nat.mod_lt n (show 0 < 2 ^ (j + 1) from Nat.pow_pos (by omega))
  have e : (2 : Int) ^ (j + 1) = 2 * ((2 ^ j : Nat) : Int) := by rw [Int.pow_succ]; push_cast; omega
  have e2 : (2 : Int) ^ j = ((2 ^ j : Nat) : Int) := by push_cast; rfl
  rw [Nat.pow_succ] at *
  simp only [Nat.add_sub_cancel]
  rw [e, e2]
  split <;> omega

theorem signZ_iff (n : Int) (k : Nat) (hk : 1 ≤ k) (hk2 : k ≤ 64) (m : Nat) (hm : (m : Int) = n % 18446744073709551616) :
    signZ m k = n ↔ -(2 ^ (k - 1) : Int) ≤ n ∧ n < 2 ^ (k - 1) := by
  constructor
  · intro h
    rw [← h]
    exact signZ_range m k hk
  · rintro ⟨h1, h2⟩
    obtain ⟨j, rfl⟩ : ∃ j, k = j + 1 := ⟨k - 1, by omega⟩
    simp only [Nat.add_sub_cancel] at h1 h2
    have hp : 0 < 2 ^ j := Nat.pow_pos (by omega)
    have e64 : 2 ^ (j + 1) * 2 ^ (63 - j) = 18446744073709551616 := by rw [← Nat.pow_add, show j + 1 + (63 - j) = 64 by omega]
    have hmod : ((m % 2 ^ (j + 1) : Nat) : Int) = n % ((2 ^ (j + 1) : Nat) : Int) := by
      rw [Int.natCast_emod, hm, Int.emod_emod_of_dvd _ (show ((2 ^ (j + 1) : Nat) : Int) ∣ 18446744073709551616 from ⟨((2 ^ (63 - j) : Nat) : Int), by rw [← Int.natCast_mul, e64]; rfl⟩)]
    have eJ : ((2 : Int) ^ j) = ((2 ^ j : Nat) : Int) := by push_cast; rfl
    have eK : ((2 : Int) ^ (j + 1)) = 2 * ((2 ^ j : Nat) : Int) := by rw [Int.pow_succ, eJ]; omega
    rw [eJ] at h1 h2
    unfold signZ
    rw [eK]
    rw [Nat.pow_succ] at *
    generalize 2 ^ j = q at *
    generalize m % (q * 2) = r at *
    by_cases hn : 0 ≤ n
    · rw [Int.emod_eq_of_lt hn (by omega)] at hmod
      rw [if_pos (by omega)]
      omega
    · have e : n % ((q * 2 : Nat) : Int) = n + ((q * 2 : Nat) : Int) := by
        rw [← Int.add_emod_right, Int.emod_eq_of_lt (by omega) (by omega)]
      rw [e] at hmod
      rw [if_neg (by omega)]
      omega

/-- 2 to a number, kept whole -/
def pw (k : Nat) : Nat := 2 ^ k
theorem pw_succ (k : Nat) : pw (k + 1) = 2 * pw k := by unfold pw; rw [Nat.pow_succ]; omega
theorem pw_le {a b : Nat} (h : a ≤ b) : pw a ≤ pw b := Nat.pow_le_pow_right (by omega) h
theorem pw_pos (k : Nat) : 0 < pw k := Nat.pow_pos (by omega)
theorem pw_256 (k : Nat) : pw (8 * k) = 256 ^ k := by unfold pw; rw [Nat.pow_mul]
end Go.Proofs.Ytbnbfnlfgmlcgaa
