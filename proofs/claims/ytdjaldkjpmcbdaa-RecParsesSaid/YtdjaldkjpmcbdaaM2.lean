/-
  Plain mathematics of layer 2: checks of bytes, by steps of a bit.
-/
import Derived.Test.YtdjaldkjpmcbdaaM1
namespace Go.Proofs.Ytdjaldkjpmcbdaa
set_option linter.unusedSimpArgs false
set_option linter.unusedVariables false

abbrev St := BitVec 32
def feed : St := 0x04C11DB7#32
/-- a step by the bit 0 -/
def T (s : St) : St := (s <<< 1) ^^^ (if s.msb then feed else 0#32)
/-- a bit at the highest place -/
def top (b : Bool) : St := if b then 0x80000000#32 else 0#32
/-- a step of a state by a bit -/
def stepB (s : St) (b : Bool) : St := T (s ^^^ top b)
def stepsB (s : St) (l : List Bool) : St := l.foldl stepB s
/-- a byte's bits, the highest one first -/
def bitsU (x : UInt8) : List Bool := [x.toBitVec[7], x.toBitVec[6], x.toBitVec[5], x.toBitVec[4], x.toBitVec[3], x.toBitVec[2], x.toBitVec[1], x.toBitVec[0]]
def bitsL (l : List UInt8) : List Bool := l.flatMap bitsU
def moreS (s : St) (l : List UInt8) : St := stepsB s (bitsL l)
def firstS : St := 0xFFFFFFFF#32
def sumS (l : List UInt8) : St := ~~~ (moreS firstS l)

theorem xor4 (a b c d : St) : (a ^^^ b) ^^^ (c ^^^ d) = (a ^^^ c) ^^^ (b ^^^ d) := by
  rw [BitVec.xor_assoc, BitVec.xor_assoc, ← BitVec.xor_assoc b c d, BitVec.xor_comm b c, BitVec.xor_assoc c b d]
theorem T_xor (a b : St) : T (a ^^^ b) = T a ^^^ T b := by
  unfold T
  rw [BitVec.msb_xor, BitVec.shiftLeft_xor_distrib, xor4 (a <<< 1)]
  cases a.msb <;> cases b.msb <;> simp
theorem T_zero : T 0#32 = 0#32 := by decide
theorem top_xor (a b : Bool) : top (a ^^ b) = top a ^^^ top b := by cases a <;> cases b <;> decide
theorem step_xor (s s' : St) (b b' : Bool) : stepB (s ^^^ s') (b ^^ b') = stepB s b ^^^ stepB s' b' := by
  unfold stepB
  rw [top_xor, xor4, T_xor]

theorem T_lsb (s : St) : (T s)[0] = s.msb := by
  unfold T feed
  rw [BitVec.getElem_xor]
  cases s.msb <;> simp
theorem T_inj {a b : St} (h : T a = T b) : a = b := by
  have hm : a.msb = b.msb := by rw [← T_lsb a, ← T_lsb b, h]
  unfold T at h
  rw [hm] at h
  have h2 : a <<< 1 = b <<< 1 := by
    have := congrArg (· ^^^ (if b.msb then feed else 0#32)) h
    simpa [BitVec.xor_assoc] using this
  apply BitVec.eq_of_getElem_eq
  intro i hi
  by_cases h31 : i = 31
  · subst h31
    have e1 := BitVec.msb_eq_getLsbD_last a
    have e2 := BitVec.msb_eq_getLsbD_last b
    rw [e1, e2] at hm
    simpa [BitVec.getLsbD_eq_getElem] using hm
  · have := congrArg (fun v : St => v[i + 1]'(by omega)) h2
    simpa using this

def Tn : Nat → St → St
  | 0, s => s
  | n + 1, s => T (Tn n s)
theorem Tn_succ (n : Nat) (s : St) : Tn n (T s) = Tn (n + 1) s := by
  induction n with
  | zero => rfl
  | succ n ih => simp only [Tn, ih]
theorem Tn_inj {n : Nat} {a b : St} (h : Tn n a = Tn n b) : a = b := by
  induction n with
  | zero => exact h
  | succ n ih => exact ih (T_inj h)
theorem Tn_xor (n : Nat) (a b : St) : Tn n (a ^^^ b) = Tn n a ^^^ Tn n b := by
  induction n with
  | zero => rfl
  | succ n ih => simp only [Tn, ih, T_xor]
theorem Tn_zero (n : Nat) : Tn n 0#32 = 0#32 := by
  induction n with
  | zero => rfl
  | succ n ih => simp only [Tn, ih, T_zero]
theorem Tn_add (n m : Nat) (s : St) : Tn (n + m) s = Tn n (Tn m s) := by
  induction n with
  | zero => simp [Tn]
  | succ n ih => rw [show n + 1 + m = (n + m) + 1 by omega]; simp only [Tn, ih]

/-- the bits of a list, from the place 31 - k on downwards -/
def word : Nat → List Bool → St
  | _, [] => 0#32
  | k, b :: l => (top b >>> k) ^^^ word (k + 1) l

theorem T_shift (k : Nat) (hk : k < 31) (b : Bool) : T (top b >>> (k + 1)) = top b >>> k := by
  cases b
  · simp [top, T_zero]
  · have : ∀ k : Fin 31, T (top true >>> (k.val + 1)) = top true >>> k.val := by decide
    exact this ⟨k, hk⟩
theorem T_word (l : List Bool) : ∀ k : Nat, k + l.length ≤ 31 → T (word (k + 1) l) = word k l := by
  induction l with
  | nil => intro k _; simp [word, T_zero]
  | cons b l ih =>
    intro k h
    simp only [List.length_cons] at h
    simp only [word]
    rw [T_xor, T_shift k (by omega), ih (k + 1) (by omega)]

/-- up to 32 steps are so many by the bit 0, of the state and the bits together -/
theorem steps_word (l : List Bool) : ∀ s : St, l.length ≤ 32 → stepsB s l = Tn l.length (s ^^^ word 0 l) := by
  induction l with
  | nil => intro s _; simp [stepsB, Tn, word]
  | cons b l ih =>
    intro s h
    simp only [List.length_cons] at h
    rw [stepsB, List.foldl_cons, ← stepsB, ih _ (by omega)]
    simp only [word, List.length_cons, BitVec.ushiftRight_zero]
    rw [← Tn_succ, ← BitVec.xor_assoc, T_xor, ← stepB, T_word l 0 (by omega)]

theorem steps_append (s : St) (a b : List Bool) : stepsB s (a ++ b) = stepsB (stepsB s a) b := by simp [stepsB]
theorem bitsL_append (a b : List UInt8) : bitsL (a ++ b) = bitsL a ++ bitsL b := by simp [bitsL]
theorem more_append (s : St) (a b : List UInt8) : moreS s (a ++ b) = moreS (moreS s a) b := by unfold moreS; rw [bitsL_append, steps_append]
theorem bitsU_length (x : UInt8) : (bitsU x).length = 8 := rfl
theorem bitsL_length (l : List UInt8) : (bitsL l).length = 8 * l.length := by
  induction l with
  | nil => rfl
  | cons x l ih => simp only [bitsL, List.flatMap_cons, List.length_append, List.length_cons] at *; rw [ih, bitsU_length]; omega

/-- bit by bit, exclusive or -/
def xorL (a b : List Bool) : List Bool := List.zipWith (· ^^ ·) a b
theorem steps_xor : ∀ (a b : List Bool) (s s' : St), a.length = b.length → stepsB (s ^^^ s') (xorL a b) = stepsB s a ^^^ stepsB s' b
  | [], [], _, _, _ => rfl
  | [], _ :: _, _, _, h => by simp at h
  | _ :: _, [], _, _, h => by simp at h
  | x :: a, y :: b, s, s', h => by
    have hl : a.length = b.length := by simpa using h
    simp only [stepsB, xorL, List.zipWith_cons_cons, List.foldl_cons]
    rw [step_xor]
    exact steps_xor a b _ _ hl
theorem bitsU_xor (x y : UInt8) : bitsU (x ^^^ y) = xorL (bitsU x) (bitsU y) := by
  simp [bitsU, xorL]
theorem bitsL_xor : ∀ (a b : List UInt8), a.length = b.length → bitsL (List.zipWith (· ^^^ ·) a b) = xorL (bitsL a) (bitsL b)
  | [], [], _ => rfl
  | [], _ :: _, h => by simp at h
  | _ :: _, [], h => by simp at h
  | x :: a, y :: b, h => by
    have hl : a.length = b.length := by simpa using h
    have ih := bitsL_xor a b hl
    simp only [bitsL, List.zipWith_cons_cons, List.flatMap_cons] at *
    rw [ih, bitsU_xor]
    simp only [xorL]
    rw [List.zipWith_append (by simp [bitsU_length])]

/-! by bytes, with the table -/
def tabS (x : UInt8) : St := Tn 8 (x.toBitVec.zeroExtend 32 <<< 24)
theorem word_bitsU (x : UInt8) : word 0 (bitsU x) = x.toBitVec.zeroExtend 32 <<< 24 := by
  have : ∀ y : BitVec 8, word 0 (bitsU ⟨y⟩) = y.zeroExtend 32 <<< 24 := by decide +kernel
  exact this x.toBitVec
theorem T_low (v : St) (h : v.msb = false) : T v = v <<< 1 := by unfold T; rw [h]; simp
theorem T_of_shift (v : St) (k : Nat) (h : (v <<< k).msb = false) : T (v <<< k) = v <<< (k + 1) := by
  rw [T_low _ h, ← BitVec.shiftLeft_add]
theorem Tn_low (s : St) : Tn 8 (s &&& 0x00FFFFFF#32) = s <<< 8 := by
  have m : ∀ k : Nat, k ≤ 7 → ((s &&& 0x00FFFFFF#32) <<< k).msb = false := by
    intro k hk
    obtain rfl | rfl | rfl | rfl | rfl | rfl | rfl | rfl : k = 0 ∨ k = 1 ∨ k = 2 ∨ k = 3 ∨ k = 4 ∨ k = 5 ∨ k = 6 ∨ k = 7 := by omega
    all_goals simp [BitVec.msb_eq_getLsbD_last]
  have e : ∀ k : Nat, k ≤ 8 → Tn k (s &&& 0x00FFFFFF#32) = (s &&& 0x00FFFFFF#32) <<< k := by
    intro k
    induction k with
    | zero => intro _; simp [Tn]
    | succ k ih => intro hk; rw [Tn, ih (by omega), T_of_shift _ _ (m k (by omega))]
  rw [e 8 (by omega)]
  apply BitVec.eq_of_getLsbD_eq
  intro i hi
  simp only [BitVec.getLsbD_shiftLeft, BitVec.getLsbD_and]
  by_cases h8 : i < 8
  · simp [h8]
  · have : (0x00FFFFFF#32).getLsbD (i - 8) = true := by
      have h : ∀ j : Fin 24, (0x00FFFFFF#32).getLsbD j.val = true := by decide
      exact h ⟨i - 8, by omega⟩
    simp [this]
/-- the byte at the highest places -/
def highU (s : St) : UInt8 := ⟨(s >>> 24).truncate 8⟩
theorem split_high (s : St) (x : UInt8) : s ^^^ (x.toBitVec.zeroExtend 32 <<< 24) = ((highU s ^^^ x).toBitVec.zeroExtend 32 <<< 24) ^^^ (s &&& 0x00FFFFFF#32) := by
  apply BitVec.eq_of_getLsbD_eq
  intro i hi
  simp only [BitVec.getLsbD_xor, BitVec.getLsbD_shiftLeft, BitVec.getLsbD_and, UInt8.toBitVec_xor, BitVec.truncate_eq_setWidth, BitVec.zeroExtend_eq_setWidth, BitVec.getLsbD_setWidth, highU, BitVec.getLsbD_ushiftRight]
  by_cases h : i < 24
  · have e : (0x00FFFFFF#32).getLsbD i = true := by
      have h' : ∀ j : Fin 24, (0x00FFFFFF#32).getLsbD j.val = true := by decide
      exact h' ⟨i, h⟩
    simp [h, e]
  · have e : (0x00FFFFFF#32).getLsbD i = false := by
      have h' : ∀ j : Fin 8, (0x00FFFFFF#32).getLsbD (24 + j.val) = false := by decide
      have := h' ⟨i - 24, by omega⟩
      rwa [show 24 + (i - 24) = i by omega] at this
    have h1 : i - 24 < 8 := by omega
    have h2 : i - 24 < 32 := by omega
    have h3 : 24 + (i - 24) = i := by omega
    have e' : (0x00FFFFFF#32)[i] = false := by rw [← BitVec.getLsbD_eq_getElem hi]; exact e
    simp [h, e, e', hi, h1, h2, h3]
theorem more_byte (s : St) (x : UInt8) : moreS s [x] = (s <<< 8) ^^^ tabS (highU s ^^^ x) := by
  unfold moreS
  rw [show bitsL [x] = bitsU x by simp [bitsL], steps_word _ _ (by simp [bitsU]), bitsU_length, word_bitsU, split_high, Tn_xor, Tn_low, ← tabS, BitVec.xor_comm]
theorem more_cons (s : St) (x : UInt8) (l : List UInt8) : moreS s (x :: l) = moreS (moreS s [x]) l := more_append s [x] l

/-! as numbers -/
theorem T_nat (s : St) : (T s).toNat = (s.toNat * 2 % 4294967296) ^^^ (s.toNat / 2147483648 * 79764919) := by
  unfold T
  have hs := s.isLt
  rw [BitVec.toNat_xor, BitVec.toNat_shiftLeft, Nat.shiftLeft_eq]
  have hm : s.msb = decide (2147483648 ≤ s.toNat) := by rw [BitVec.msb_eq_decide]
  rw [hm]
  by_cases h : 2147483648 ≤ s.toNat
  · rw [show s.toNat / 2147483648 = 1 by omega]; simp [h, feed]
  · rw [show s.toNat / 2147483648 = 0 by omega]; simp [h]
theorem T_lt (s : St) : (T s).toNat < 4294967296 := (T s).isLt
def tabN (k : Nat) : Nat := (Tn 8 (BitVec.ofNat 32 k <<< 24)).toNat
theorem tabN_lt (k : Nat) : tabN k < 4294967296 := (Tn 8 (BitVec.ofNat 32 k <<< 24)).isLt
theorem tabN_of (x : UInt8) : tabN x.toNat = (tabS x).toNat := by
  have h : BitVec.ofNat 32 x.toNat = x.toBitVec.zeroExtend 32 := by
    apply BitVec.eq_of_toNat_eq
    rw [BitVec.toNat_ofNat, BitVec.zeroExtend_eq_setWidth, BitVec.toNat_setWidth]
    rfl
  rw [tabN, tabS, h]
theorem start_nat (k : Nat) (h : k < 256) : (BitVec.ofNat 32 k <<< 24).toNat = k * 16777216 := by
  have e : (BitVec.ofNat 32 k).toNat = k := by rw [BitVec.toNat_ofNat]; exact Nat.mod_eq_of_lt (by omega)
  rw [BitVec.toNat_shiftLeft, e, Nat.shiftLeft_eq]
  exact Nat.mod_eq_of_lt (by omega)
theorem highU_nat (s : St) : (highU s).toNat = s.toNat / 16777216 := by
  have hs := s.isLt
  have e : (highU s).toNat = ((s >>> 24).truncate 8).toNat := rfl
  rw [e, BitVec.truncate_eq_setWidth, BitVec.toNat_setWidth, BitVec.toNat_ushiftRight, Nat.shiftRight_eq_div_pow]
  exact Nat.mod_eq_of_lt (by omega)
theorem more_nat (s : St) (x : UInt8) : (moreS s [x]).toNat = (s.toNat * 256 % 4294967296) ^^^ tabN (s.toNat / 16777216 ^^^ x.toNat) := by
  have hh : (highU s ^^^ x).toNat = s.toNat / 16777216 ^^^ x.toNat := by rw [UInt8.toNat_xor, highU_nat]
  have h2 : (s <<< 8).toNat = s.toNat * 256 % 4294967296 := by rw [BitVec.toNat_shiftLeft, Nat.shiftLeft_eq]
  rw [more_byte, BitVec.toNat_xor, h2, ← hh, tabN_of]
end Go.Proofs.Ytdjaldkjpmcbdaa
