/-
  Layer 9, plain: the table of bytes.
-/
import Derived.Test.YtfphkldpjfackaaLaw9
namespace Go.Proofs.Ytfphkldpjfackaa
set_option linter.unusedSimpArgs false
set_option linter.unusedVariables false

def nbN (m : Nat) : Nat := (m + 7) / 8
/-- the bits of bytes, of so many blocks -/
def bitsP (s : List UInt8) (m : Nat) : List UInt8 := (s.drop 8).take (nbN m) ++ List.replicate (32 - nbN m) 0
/-- bits behind the last block -/
def beyondU (m : Nat) : Nat := 255 / 2 ^ (1 + (m - 1) % 8)
/-- may it be read? -/
def FormOk (s : List UInt8) (m : Nat) : Prop := 8 + nbN m ≤ s.length ∧ (∀ c ∈ s.drop (8 + nbN m), c = 0) ∧ ((bitsP s m).getD (nbN m - 1) 0).toNat &&& beyondU m = 0
theorem bitsP_length (s : List UInt8) (m : Nat) (hm : m ≤ 256) (h : 8 + nbN m ≤ s.length) : (bitsP s m).length = 32 := by
  unfold bitsP
  have : nbN m ≤ 32 := by unfold nbN; omega
  rw [List.length_append, List.length_take, List.length_drop, List.length_replicate]
  omega
theorem bitsP_at (s : List UInt8) (m i : Nat) (h : 8 + nbN m ≤ s.length) : (bitsP s m).getD i 0 = if i < nbN m then s.getD (8 + i) 0 else 0 := by
  unfold bitsP
  simp only [List.getD]
  by_cases hi : i < nbN m
  · rw [if_pos hi, List.getElem?_append_left (by rw [List.length_take, List.length_drop]; omega), List.getElem?_take, if_pos hi, List.getElem?_drop]
  · rw [if_neg hi, List.getElem?_append_right (by rw [List.length_take, List.length_drop]; omega), List.getElem?_replicate]
    split <;> rfl
/-- what is beyond the last block isn't set -/
theorem beyond_bits (x : UInt8) (m : Nat) (h : x.toNat &&& beyondU m = 0) (r : Nat) (hr : (m - 1) % 8 < r) (hr8 : r < 8) : x.toNat.testBit (7 - r) = false := by
  have h1 := congrArg (fun y => y.testBit (7 - r)) h
  simp only [Nat.testBit_and, Nat.zero_testBit] at h1
  have h2 : (beyondU m).testBit (7 - r) = true := by
    unfold beyondU
    have h3 : (m - 1) % 8 < 8 := Nat.mod_lt _ (by omega)
    generalize (m - 1) % 8 = q at *
    have hq : q = 0 ∨ q = 1 ∨ q = 2 ∨ q = 3 ∨ q = 4 ∨ q = 5 ∨ q = 6 := by omega
    have hr2 : r = 1 ∨ r = 2 ∨ r = 3 ∨ r = 4 ∨ r = 5 ∨ r = 6 ∨ r = 7 := by omega
    rcases hq with rfl | rfl | rfl | rfl | rfl | rfl | rfl <;> rcases hr2 with rfl | rfl | rfl | rfl | rfl | rfl | rfl <;> first | (exfalso; omega) | decide
  rw [h2, Bool.and_true] at h1
  exact h1
theorem form_none (s : List UInt8) (m : Nat) (hm1 : 1 ≤ m) (h : FormOk s m) (k : Nat) (hk : m ≤ k) : hasB (bitsP s m) k = false := by
  obtain ⟨h1, -, h3⟩ := h
  unfold hasB
  by_cases hi : k / 8 = nbN m - 1
  · rw [hi]
    refine beyond_bits _ m h3 (k % 8) ?_ (by omega)
    unfold nbN at hi
    omega
  · rw [bitsP_at s m _ h1, if_neg (by unfold nbN at *; omega)]
    simp
/-- the same bytes, read for two counts of blocks, tell the same -/
theorem form_same (s : List UInt8) (m n : Nat) (hm : FormOk s m) (hn : FormOk s n) (k : Nat) : hasB (bitsP s m) k = hasB (bitsP s n) k := by
  have key : ∀ (a b : Nat), FormOk s a → FormOk s b → a ≤ b → hasB (bitsP s a) k = hasB (bitsP s b) k := by
    intro a b ha hb hab
    unfold hasB
    rw [bitsP_at s a _ ha.1, bitsP_at s b _ hb.1]
    have hnb : nbN a ≤ nbN b := by unfold nbN; omega
    by_cases h1 : k / 8 < nbN a
    · rw [if_pos h1, if_pos (by omega)]
    · rw [if_neg h1]
      by_cases h2 : k / 8 < nbN b
      · rw [if_pos h2]
        have : s.getD (8 + k / 8) 0 = 0 := by
          have h4 := ha.2.1 (s.getD (8 + k / 8) 0)
          have hlt : 8 + k / 8 < s.length := by have := hb.1; omega
          refine h4 ?_
          simp only [List.getD, List.getElem?_eq_getElem hlt, Option.getD_some]
          rw [List.mem_iff_getElem]
          exact ⟨k / 8 - nbN a, by rw [List.length_drop]; omega, by rw [List.getElem_drop]; congr 1; omega⟩
        rw [this]
      · rw [if_neg h2]
  rcases Nat.le_total m n with h | h
  · exact key m n hm hn h
  · exact (key n m hn hm h).symm
theorem badL_more (L : List UInt8) (n k : Nat) (h : ∀ j, n ≤ j → hasB L j = false) : badL L (n + k) = badL L n := by
  induction k with
  | zero => rfl
  | succ k ih => rw [← Nat.add_assoc, badL_next, ih, h (n + k) (by omega)]; simp
theorem form_bad (s : List UInt8) (m n : Nat) (hm1 : 1 ≤ m) (hn1 : 1 ≤ n) (hm : FormOk s m) (hn : FormOk s n) : badL (bitsP s m) m = badL (bitsP s n) n := by
  have e : ∀ x, badL (bitsP s m) x = badL (bitsP s n) x := fun x => badL_same _ _ _ (fun k _ => form_same s m n hm hn k)
  have h1 := badL_more (bitsP s m) m n (form_none s m hm1 hm)
  have h2 := badL_more (bitsP s n) n m (form_none s n hn1 hn)
  rw [← h1, Nat.add_comm, e, h2]
/-- a byte without bits -/
theorem byte_zero (x : UInt8) (h : ∀ r, r < 8 → x.toNat.testBit (7 - r) = false) : x = 0 := by
  apply UInt8.toNat_inj.1
  apply Nat.eq_of_testBit_eq
  intro i
  by_cases hi : i < 8
  · have := h (7 - i) (by omega)
    rw [show 7 - (7 - i) = i by omega] at this
    rw [this]
    simp
  · have hx := x.toNat_lt
    rw [Nat.testBit_lt_two_pow (Nat.lt_of_lt_of_le hx (Nat.pow_le_pow_right (by omega) (by omega)))]
    simp
theorem bits_beyond (L : List UInt8) (n i : Nat) (h : ∀ k, n ≤ k → hasB L k = false) (hi : nbN n ≤ i) : L.getD i 0 = 0 := by
  refine byte_zero _ (fun r hr => ?_)
  have h1 := h (8 * i + r) (by unfold nbN at hi; omega)
  unfold hasB at h1
  rwa [show (8 * i + r) / 8 = i by omega, show (8 * i + r) % 8 = r by omega] at h1
theorem beyond_zero (x : UInt8) (n : Nat) (h : ∀ r, (n - 1) % 8 < r → r < 8 → x.toNat.testBit (7 - r) = false) : x.toNat &&& beyondU n = 0 := by
  apply Nat.eq_of_testBit_eq
  intro i
  rw [Nat.testBit_and, Nat.zero_testBit]
  have h3 : (n - 1) % 8 < 8 := Nat.mod_lt _ (by omega)
  by_cases hi : i < 7 - (n - 1) % 8
  · have := h (7 - i) (by omega) (by omega)
    rw [show 7 - (7 - i) = i by omega] at this
    rw [this, Bool.false_and]
  · have : (beyondU n).testBit i = false := by
      refine Nat.testBit_lt_two_pow ?_
      unfold beyondU
      generalize (n - 1) % 8 = q at *
      have h5 : 255 / 2 ^ (1 + q) < 2 ^ (7 - q) := by
        have hq : q = 0 ∨ q = 1 ∨ q = 2 ∨ q = 3 ∨ q = 4 ∨ q = 5 ∨ q = 6 ∨ q = 7 := by omega
        rcases hq with rfl | rfl | rfl | rfl | rfl | rfl | rfl | rfl <;> decide
      exact Nat.lt_of_lt_of_le h5 (Nat.pow_le_pow_right (by omega) (by omega))
    rw [this, Bool.and_false]
theorem text_bits (v : Int) (n : Nat) (L : List UInt8) (hL : L.length = 32) (c : Nat) (hn : n ≤ 256) (h : ∀ k, n ≤ k → hasB L k = false) : bitsP (textL v n L c) n = L := by
  have hnb : nbN n ≤ 32 := by unfold nbN; omega
  have e : ((textL v n L c).drop 8).take (nbN n) = L.take (nbN n) := by
    unfold textL
    rw [List.append_assoc, List.drop_left' (putL_length _ _)]
    exact List.take_left' (by rw [List.length_take]; unfold nbN; omega)
  unfold bitsP
  rw [e]
  apply List.ext_getElem
  · rw [List.length_append, List.length_take, List.length_replicate]; omega
  · intro i h1 h2
    by_cases hi : i < nbN n
    · rw [List.getElem_append_left (by rw [List.length_take]; omega), List.getElem_take]
    · rw [List.getElem_append_right (by rw [List.length_take]; omega), List.getElem_replicate]
      have := bits_beyond L n i h (by omega)
      simp only [List.getD, List.getElem?_eq_getElem h2, Option.getD_some] at this
      exact this.symm
theorem text_form (v : Int) (n : Nat) (L : List UInt8) (hL : L.length = 32) (c : Nat) (hn1 : 1 ≤ n) (hn : n ≤ 256) (h : ∀ k, n ≤ k → hasB L k = false) : FormOk (textL v n L c) n := by
  have hnb : nbN n ≤ 32 := by unfold nbN; omega
  have hpre : (putL v.toNat 8 ++ L.take (nbN n)).length = 8 + nbN n := by rw [List.length_append, putL_length, List.length_take]; omega
  refine ⟨?_, ?_, ?_⟩
  · unfold textL
    rw [List.length_append]
    change 8 + nbN n ≤ (putL v.toNat 8 ++ L.take (nbN n)).length + _
    omega
  · have : (textL v n L c).drop (8 + nbN n) = List.replicate c 0 := by
      rw [← hpre]
      exact List.drop_left ..
    rw [this]
    intro x hx
    exact (List.mem_replicate.1 hx).2
  · rw [text_bits v n L hL c hn h]
    refine beyond_zero _ n (fun r h1 h2 => ?_)
    have := h (8 * (nbN n - 1) + r) (by unfold nbN; omega)
    unfold hasB at this
    rwa [show (8 * (nbN n - 1) + r) / 8 = nbN n - 1 by omega, show (8 * (nbN n - 1) + r) % 8 = r by omega] at this
end Go.Proofs.Ytfphkldpjfackaa
