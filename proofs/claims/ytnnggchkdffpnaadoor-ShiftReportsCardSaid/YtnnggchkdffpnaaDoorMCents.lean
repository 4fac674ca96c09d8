/-
  Layer 3: digits, and the number of a text, plainly.
-/
import Derived.Test.YtnnggchkdffpnaaDoorCents4
namespace Go.Proofs.YtnnggchkdffpnaaDoor
set_option linter.unusedSimpArgs false
set_option linter.unusedVariables false
open Go.RowKit

theorem dec3 (n : Nat) (h1 : ¬ n / 10 < 10) (h2 : n / 10 < 100) : Lib.decDigits n = [UInt8.ofNat (48 + n / 10 / 10), UInt8.ofNat (48 + n / 10 % 10), UInt8.ofNat (48 + n % 10)] := by
  rw [Lib.decDigits, dif_neg (by omega), Lib.decDigits_two h1 h2]
  rfl
def valA : Nat → List UInt8 → Nat
  | acc, [] => acc
  | acc, c :: r => valA (acc * 10 + (c.toNat - 48)) r
def AllDig (l : List UInt8) : Prop := ∀ c ∈ l, 48 ≤ c.toNat ∧ c.toNat ≤ 57
theorem valA_append : ∀ (l m : List UInt8) (a : Nat), valA a (l ++ m) = valA (valA a l) m
  | [], _, _ => rfl
  | c :: r, m, a => valA_append r m _
theorem valA_ge : ∀ (l : List UInt8) (a : Nat), a ≤ valA a l
  | [], a => Nat.le_refl a
  | c :: r, a => Nat.le_trans (show a ≤ a * 10 + (c.toNat - 48) by omega) (valA_ge r _)
theorem valA_take (l : List UInt8) (k : Nat) : valA 0 (l.take k) ≤ valA 0 l := by
  have h := valA_append (l.take k) (l.drop k) 0
  rw [List.take_append_drop] at h
  rw [h]
  exact valA_ge _ _
theorem dgt (d : Nat) (h : d < 10) : (UInt8.ofNat (48 + d)).toNat = 48 + d := by
  rw [UInt8.toNat_ofNat']
  omega
theorem dig_one (d : Nat) (h : d < 10) : AllDig [UInt8.ofNat (48 + d)] := by
  intro c hc
  simp only [List.mem_singleton] at hc
  subst hc
  rw [dgt d h]
  omega
theorem allDig_append {l m : List UInt8} (h : AllDig l) (k : AllDig m) : AllDig (l ++ m) := fun c hc => (List.mem_append.1 hc).elim (h c) (k c)
theorem dec_step (n : Nat) (h : ¬ n < 10) : Lib.decDigits n = Lib.decDigits (n / 10) ++ [UInt8.ofNat (48 + n % 10)] := by rw [Lib.decDigits, dif_neg h]
theorem dec_all (n : Nat) : AllDig (Lib.decDigits n) := by
  induction n using Nat.strongRecOn with
  | _ n ih =>
    by_cases h : n < 10
    · rw [Lib.decDigits_one h]; exact dig_one n h
    · rw [dec_step n h]; exact allDig_append (ih _ (by omega)) (dig_one _ (by omega))
theorem dec_val (n : Nat) : valA 0 (Lib.decDigits n) = n := by
  induction n using Nat.strongRecOn with
  | _ n ih =>
    by_cases h : n < 10
    · rw [Lib.decDigits_one h]
      show 0 * 10 + ((UInt8.ofNat (48 + n)).toNat - 48) = n
      rw [dgt n h]
      omega
    · rw [dec_step n h, valA_append, ih (n / 10) (by omega)]
      show n / 10 * 10 + ((UInt8.ofNat (48 + n % 10)).toNat - 48) = n
      rw [dgt (n % 10) (by omega)]
      omega
theorem dec_len (k : Nat) : ∀ n, n < 10 ^ (k + 1) → (Lib.decDigits n).length ≤ k + 1 := by
  induction k with
  | zero => intro n h; rw [Lib.decDigits_one (by simpa using h)]; simp
  | succ k ih =>
    intro n h
    by_cases h1 : n < 10
    · rw [Lib.decDigits_one h1]; simp
    · rw [dec_step n h1, List.length_append]
      have := ih (n / 10) (by rw [Nat.pow_succ] at h; omega)
      simp only [List.length_singleton]
      omega
theorem dec_pos (n : Nat) : 1 ≤ (Lib.decDigits n).length := by
  by_cases h : n < 10
  · rw [Lib.decDigits_one h]; simp
  · rw [dec_step n h]; simp
theorem rest_eq (A : Nat) : cRest A = [UInt8.ofNat (48 + A % 100 / 10), UInt8.ofNat (48 + A % 10)] := by
  rw [cRest, dec3 _ (by omega) (by omega)]
  show [UInt8.ofNat (48 + (A % 100 + 100) / 10 % 10), UInt8.ofNat (48 + (A % 100 + 100) % 10)] = _
  rw [show (A % 100 + 100) / 10 % 10 = A % 100 / 10 by omega, show (A % 100 + 100) % 10 = A % 10 by omega]
/-- an amount's digits -/
def bodyD (A : Nat) : List UInt8 := Lib.decDigits (A / 100) ++ cRest A
theorem body_all (A : Nat) : AllDig (bodyD A) := by
  rw [bodyD, rest_eq]
  exact allDig_append (dec_all _) (allDig_append (l := [_]) (m := [_]) (dig_one _ (by omega)) (dig_one _ (by omega)))
theorem body_val (A : Nat) : valA 0 (bodyD A) = A := by
  rw [bodyD, rest_eq, valA_append, dec_val]
  show (A / 100 * 10 + ((UInt8.ofNat (48 + A % 100 / 10)).toNat - 48)) * 10 + ((UInt8.ofNat (48 + A % 10)).toNat - 48) = A
  rw [dgt (A % 100 / 10) (by omega), dgt (A % 10) (by omega)]
  omega
theorem body_len (A : Nat) (h : A ≤ 9223372036854775808) : 3 ≤ (bodyD A).length ∧ (bodyD A).length ≤ 19 := by
  have h1 := dec_len 16 (A / 100) (by omega)
  have h2 := dec_pos (A / 100)
  rw [bodyD, rest_eq, List.length_append]
  simp only [List.length_cons, List.length_nil]
  omega
def sgnL (v : Int) : List UInt8 := if v < 0 then [45] else []
theorem cText_eq (v : Int) : cText v = sgnL v ++ (Lib.decDigits (v.natAbs / 100) ++ (46 :: cRest v.natAbs)) := rfl
theorem cRest_len (A : Nat) : (cRest A).length = 2 := by rw [rest_eq]; rfl
theorem cText_len (v : Int) : (cText v).length = (sgnL v).length + (Lib.decDigits (v.natAbs / 100)).length + 3 := by
  rw [cText_eq, List.length_append, List.length_append, List.length_cons, cRest_len]; omega
/-- the last digits of a number -/
def digs : Nat → Nat → List UInt8
  | _, 0 => []
  | n, k + 1 => digs (n / 10) k ++ [UInt8.ofNat (48 + n % 10)]
theorem digs_head : ∀ (k n : Nat), digs n (k + 1) = UInt8.ofNat (48 + n / 10 ^ k % 10) :: digs n k
  | 0, n => by simp [digs]
  | k + 1, n => by
    rw [digs, digs_head k (n / 10), digs, Nat.div_div_eq_div_mul, Nat.pow_succ, Nat.mul_comm 10]
    rfl
theorem digs_len : ∀ (k n : Nat), (digs n k).length = k
  | 0, _ => rfl
  | k + 1, n => by rw [digs, List.length_append, digs_len k]; rfl
theorem digs_dec : ∀ (k n : Nat), 1 ≤ k → n / 10 ^ k = 0 → (k = 1 ∨ 0 < n / 10 ^ (k - 1)) → digs n k = Lib.decDigits n
  | 0, _, h, _, _ => by omega
  | 1, n, _, h, _ => by
    have h10 : n < 10 := by simp at h; omega
    rw [Lib.decDigits_one h10, digs, digs, Nat.mod_eq_of_lt h10]
    rfl
  | k + 2, n, _, h, h2 => by
    have h3 : 0 < n / 10 ^ (k + 1) := h2.resolve_left (by omega)
    have e1 : n / 10 / 10 ^ (k + 1) = n / 10 ^ (k + 2) := by rw [Nat.div_div_eq_div_mul, Nat.pow_succ 10 (k + 1), Nat.mul_comm 10]
    have e2 : n / 10 / 10 ^ k = n / 10 ^ (k + 1) := by rw [Nat.div_div_eq_div_mul, Nat.pow_succ 10 k, Nat.mul_comm 10]
    have h10 : ¬ n < 10 := fun hn => by
      have : n / 10 / 10 ^ k = 0 := by rw [show n / 10 = 0 by omega]; simp
      omega
    rw [dec_step n h10, digs, digs_dec (k + 1) (n / 10) (by omega) (by rw [e1]; exact h) (.inr (by show 0 < n / 10 / 10 ^ k; omega))]
theorem digs_two (A : Nat) : digs (A % 100) 2 = cRest A := by
  rw [rest_eq]
  show ([] ++ [UInt8.ofNat (48 + A % 100 / 10 % 10)]) ++ [UInt8.ofNat (48 + A % 100 % 10)] = _
  rw [show A % 100 / 10 % 10 = A % 100 / 10 by omega, show A % 100 % 10 = A % 10 by omega]
  rfl
end Go.Proofs.YtnnggchkdffpnaaDoor
