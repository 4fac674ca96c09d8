/-
  Layer 3: digits, and the number of a text, plainly.
-/
import Derived.Test.YtbfllpidnfcmpaaDoorCents7
import Derived.Lib.ParseIntBCases
namespace Go.Proofs.YtbfllpidnfcmpaaDoor
set_option linter.unusedSimpArgs false
set_option linter.unusedVariables false
open Go.RowKit

def valA : Nat → List UInt8 → Nat
  | acc, [] => acc
  | acc, c :: r => valA (acc * 10 + (c.toNat - 48)) r
def AllDig (l : List UInt8) : Prop := ∀ c ∈ l, 48 ≤ c.toNat ∧ c.toNat ≤ 57
theorem valA_append : ∀ (l m : List UInt8) (a : Nat), valA a (l ++ m) = valA (valA a l) m
  | [], _, _ => rfl
  | c :: r, m, a => valA_append r m _
theorem valA_ge : ∀ (l : List UInt8) (a : Nat), a ≤ valA a l
  | [], a => Nat.le_refl a
  | c :: r, a => Nat.le_trans (show a ≤ a * 10 + (c.toNat - 48) by omega) (valA_ge r _)
theorem valA_take (l : List UInt8) (k : Nat) : valA 0 (l.take k) ≤ valA 0 l := by
  have h := valA_append (l.take k) (l.drop k) 0
  rw [List.take_append_drop] at h
  rw [h]
  exact valA_ge _ _
theorem dgt (d : Nat) (h : d < 10) : (UInt8.ofNat (48 + d)).toNat = 48 + d := by
  rw [UInt8.toNat_ofNat']
  omega
theorem dig_one (d : Nat) (h : d < 10) : AllDig [UInt8.ofNat (48 + d)] := by
  intro c hc
  simp only [List.mem_singleton] at hc
  subst hc
  rw [dgt d h]
  omega
theorem allDig_append {l m : List UInt8} (h : AllDig l) (k : AllDig m) : AllDig (l ++ m) := fun c hc => (List.mem_append.1 hc).elim (h c) (k c)
theorem dec_step (n : Nat) (h : ¬ n < 10) : Lib.decDigits n = Lib.decDigits (n / 10) ++ [UInt8.ofNat (48 + n % 10)] := by rw [Lib.decDigits, dif_neg h]
theorem dec_all (n : Nat) : AllDig (Lib.decDigits n) := by
  induction n using Nat.strongRecOn with
  | _ n ih =>
    by_cases h : n < 10
    · rw [Lib.decDigits_one h]; exact dig_one n h
    · rw [dec_step n h]; exact allDig_append (ih _ (by omega)) (dig_one _ (by omega))
theorem dec_val (n : Nat) : valA 0 (Lib.decDigits n) = n := by
  induction n using Nat.strongRecOn with
  | _ n ih =>
    by_cases h : n < 10
    · rw [Lib.decDigits_one h]
      show 0 * 10 + ((UInt8.ofNat (48 + n)).toNat - 48) = n
      rw [dgt n h]
      omega
    · rw [dec_step n h, valA_append, ih (n / 10) (by omega)]
      show n / 10 * 10 + ((UInt8.ofNat (48 + n % 10)).toNat - 48) = n
      rw [dgt (n % 10) (by omega)]
      omega
theorem dec_len (k : Nat) : ∀ n, n < 10 ^ (k + 1) → (Lib.decDigits n).length ≤ k + 1 := by
  induction k with
  | zero => intro n h; rw [Lib.decDigits_one (by simpa using h)]; simp
  | succ k ih =>
    intro n h
    by_cases h1 : n < 10
    · rw [Lib.decDigits_one h1]; simp
    · rw [dec_step n h1, List.length_append]
      have := ih (n / 10) (by rw [Nat.pow_succ] at h; omega)
      simp only [List.length_singleton]
      omega
theorem dec_pos (n : Nat) : 1 ≤ (Lib.decDigits n).length := by
  by_cases h : n < 10
  · rw [Lib.decDigits_one h]; simp
  · rw [dec_step n h]; simp
theorem rest_eq (A : Nat) : cRest A = [UInt8.ofNat (48 + A % 100 / 10), UInt8.ofNat (48 + A % 10)] := by
  rw [cRest, dec3 _ (by omega) (by omega)]
  show [UInt8.ofNat (48 + (A % 100 + 100) / 10 % 10), UInt8.ofNat (48 + (A % 100 + 100) % 10)] = _
  rw [show (A % 100 + 100) / 10 % 10 = A % 100 / 10 by omega, show (A % 100 + 100) % 10 = A % 10 by omega]
/-- an amount's digits -/
def bodyD (A : Nat) : List UInt8 := Lib.decDigits (A / 100) ++ cRest A
theorem body_all (A : Nat) : AllDig (bodyD A) := by
  rw [bodyD, rest_eq]
  exact allDig_append (dec_all _) (allDig_append (l := [_]) (m := [_]) (dig_one _ (by omega)) (dig_one _ (by omega)))
theorem body_val (A : Nat) : valA 0 (bodyD A) = A := by
  rw [bodyD, rest_eq, valA_append, dec_val]
  show (A / 100 * 10 + ((UInt8.ofNat (48 + A % 100 / 10)).toNat - 48)) * 10 + ((UInt8.ofNat (48 + A % 10)).toNat - 48) = A
  rw [dgt (A % 100 / 10) (by omega), dgt (A % 10) (by omega)]
  omega
theorem body_len (A : Nat) (h : A ≤ 9223372036854775808) : 3 ≤ (bodyD A).length ∧ (bodyD A).length ≤ 19 := by
  have h1 := dec_len 16 (A / 100) (by omega)
  have h2 := dec_pos (A / 100)
  rw [bodyD, rest_eq, List.length_append]
  simp only [List.length_cons, List.length_nil]
  omega
def sgnL (v : Int) : List UInt8 := if v < 0 then [45] else []
theorem cText_eq (v : Int) : cText v = sgnL v ++ (Lib.decDigits (v.natAbs / 100) ++ (46 :: cRest v.natAbs)) := rfl
theorem cRest_len (A : Nat) : (cRest A).length = 2 := by rw [rest_eq]; rfl
theorem cText_len (v : Int) : (cText v).length = (sgnL v).length + (Lib.decDigits (v.natAbs / 100)).length + 3 := by
  rw [cText_eq, List.length_append, List.length_append, List.length_cons, cRest_len]; omega
theorem cut_two {a b c : List UInt8} {x : UInt8} (hc : c.length = 2) : noPoint (a ++ (b ++ (x :: c))) = a ++ (b ++ c) := by
  have h : (a ++ (b ++ (x :: c))).length = (a ++ b).length + 3 := by simp [hc]; omega
  rw [noPoint, h, show (a ++ b).length + 3 - 3 = (a ++ b).length by omega, show (a ++ b).length + 3 - 2 = (a ++ b).length + 1 by omega, ← List.append_assoc, List.take_left, List.drop_append, List.drop_of_length_le (by omega)]
  simp
theorem noPoint_cText (v : Int) : noPoint (cText v) = sgnL v ++ bodyD v.natAbs := by
  rw [cText_eq, cut_two (cRest_len _), bodyD]
theorem parseU_ok : ∀ (l : List UInt8) (a : Nat), AllDig l → valA a l ≤ 18446744073709551615 → Lib.parseUintM 18446744073709551615 a l = .ok (valA a l)
  | [], a, _, _ => rfl
  | c :: r, a, h, hv => by
    have hc := h c (by simp)
    have hg : a * 10 + (c.toNat - 48) ≤ valA a (c :: r) := valA_ge r _
    rw [Lib.parseUintM, if_pos hc, if_neg (by omega), if_neg (by omega)]
    exact parseU_ok r _ (fun x hx => h x (by simp [hx])) hv
theorem parseUB_body (A : Nat) (h : A ≤ 9223372036854775808) : Lib.parseUintB 64 (bodyD A) = .ok A := by
  have hne : bodyD A ≠ [] := fun e => by have := (body_len A h).1; rw [e] at this; simp at this
  rw [Lib.parseUintB, if_neg hne]
  have := parseU_ok (bodyD A) 0 (body_all A) (by rw [body_val]; omega)
  rw [body_val] at this
  exact this
theorem parse_body (v : Int) (hv : inR v) : Lib.parseIntB 64 (noPoint (cText v)) = .ok v := by
  unfold inR at hv
  have hA : v.natAbs ≤ 9223372036854775808 := by omega
  have hp := parseUB_body v.natAbs hA
  rw [noPoint_cText]
  by_cases h : v < 0
  · rw [sgnL, if_pos h]
    show Lib.parseIntB 64 (45 :: bodyD v.natAbs) = _
    rw [Lib.parseIntB_minus, hp]
    show (if 2 ^ (64 - 1) < v.natAbs then _ else _) = _
    rw [if_neg (by show ¬ 9223372036854775808 < v.natAbs; omega)]
    congr 1
    omega
  · rw [sgnL, if_neg h, List.nil_append]
    have hl := (body_len v.natAbs hA).1
    have ha := body_all v.natAbs
    cases hb : bodyD v.natAbs with
    | nil => rw [hb] at hl; simp at hl
    | cons c r =>
      rw [hb] at ha hp
      have hc := ha c (by simp)
      have h43 : c.toNat ≠ 43 := by omega
      have h45 : c.toNat ≠ 45 := by omega
      rw [Lib.parseIntB_plain 64 c r h43 h45, hp]
      show (if 2 ^ (64 - 1) ≤ v.natAbs then _ else _) = _
      rw [if_neg (by show ¬ 9223372036854775808 ≤ v.natAbs; omega)]
      congr 1
      omega
theorem cText_inj {a b : Int} (ha : inR a) (hb : inR b) (h : cText a = cText b) : a = b := by
  have h1 := parse_body a ha
  rw [h, parse_body b hb] at h1
  simpa using h1.symm

/-- the last digits of a number -/
def digs : Nat → Nat → List UInt8
  | _, 0 => []
  | n, k + 1 => digs (n / 10) k ++ [UInt8.ofNat (48 + n % 10)]
theorem digs_head : ∀ (k n : Nat), digs n (k + 1) = UInt8.ofNat (48 + n / 10 ^ k % 10) :: digs n k
  | 0, n => by simp [digs]
  | k + 1, n => by
    rw [digs, digs_head k (n / 10), digs, Nat.div_div_eq_div_mul, Nat.pow_succ, Nat.mul_comm 10]
    rfl
theorem digs_len : ∀ (k n : Nat), (digs n k).length = k
  | 0, _ => rfl
  | k + 1, n => by rw [digs, List.length_append, digs_len k]; rfl
theorem digs_dec : ∀ (k n : Nat), 1 ≤ k → n / 10 ^ k = 0 → (k = 1 ∨ 0 < n / 10 ^ (k - 1)) → digs n k = Lib.decDigits n
  | 0, _, h, _, _ => by omega
  | 1, n, _, h, _ => by
    have h10 : n < 10 := by simp at h; omega
    rw [Lib.decDigits_one h10, digs, digs, Nat.mod_eq_of_lt h10]
    rfl
  | k + 2, n, _, h, h2 => by
    have h3 : 0 < n / 10 ^ (k + 1) := h2.resolve_left (by omega)
    have e1 : n / 10 / 10 ^ (k + 1) = n / 10 ^ (k + 2) := by rw [Nat.div_div_eq_div_mul, Nat.pow_succ 10 (k + 1), Nat.mul_comm 10]
    have e2 : n / 10 / 10 ^ k = n / 10 ^ (k + 1) := by rw [Nat.div_div_eq_div_mul, Nat.pow_succ 10 k, Nat.mul_comm 10]
    have h10 : ¬ n < 10 := fun hn => by
      have : n / 10 / 10 ^ k = 0 := by rw [show n / 10 = 0 by omega]; simp
      omega
    rw [dec_step n h10, digs, digs_dec (k + 1) (n / 10) (by omega) (by rw [e1]; exact h) (.inr (by show 0 < n / 10 / 10 ^ k; omega))]
theorem digs_two (A : Nat) : digs (A % 100) 2 = cRest A := by
  rw [rest_eq]
  show ([] ++ [UInt8.ofNat (48 + A % 100 / 10 % 10)]) ++ [UInt8.ofNat (48 + A % 100 % 10)] = _
  rw [show A % 100 / 10 % 10 = A % 100 / 10 by omega, show A % 100 % 10 = A % 10 by omega]
  rfl
end Go.Proofs.YtbfllpidnfcmpaaDoor
