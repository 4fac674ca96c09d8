/-
  Layer 19: where records end, and what a beginning of their bytes tells (no walk here).
-/
import Derived.Test.YtdjaldkjpmcbdaaLaw19
import Derived.Test.YtdjaldkjpmcbdaaKitM
namespace Go.Proofs.Ytdjaldkjpmcbdaa
set_option linter.unusedSimpArgs false
set_option linter.unusedVariables false
open Go.RowKit

def xR (r : Rc) : Rc := (UInt8.ofNat (1 + r.1.toNat % 255), r.2.take 300)
theorem xR_kind (r : Rc) : ((xR r).1.toNat : Int) = 1 + (r.1.toNat : Int) % 255 := by
  show ((UInt8.ofNat (1 + r.1.toNat % 255)).toNat : Int) = _
  rw [UInt8.toNat_ofNat']
  omega
theorem xR_right (r : Rc) : rightR (xR r) = true := by
  unfold rightR
  rw [Bool.and_eq_true, decide_eq_true_eq, decide_eq_true_eq]
  constructor
  · intro h
    have h1 := xR_kind r
    rw [h] at h1
    have : ((0 : UInt8).toNat : Int) = 0 := rfl
    omega
  · show (r.2.take 300).length ≤ _
    rw [List.length_take]; omega
def xL (L : List Rc) : List Rc := (L.take 6).map xR
theorem xL_length (L : List Rc) : (xL L).length = min L.length 6 := by simp [xL]; omega
theorem xL_right (L : List Rc) : ∀ r ∈ xL L, rightR r = true := by
  intro r hr
  simp only [xL, List.mem_map] at hr
  obtain ⟨x, -, rfl⟩ := hr
  exact xR_right x
theorem xL_at (L : List Rc) (j : Nat) (h : j < min L.length 6) : (xL L).getD j rc0 = xR (L.getD j rc0) := by
  have h1 : j < L.length := by omega
  have h2 : j < 6 := by omega
  simp [xL, List.getD, h1, h2]
def szN (A : List Rc) (i : Nat) : Nat := (frameL (A.take i)).length
theorem szN_zero (A : List Rc) : szN A 0 = 0 := by simp [szN, frameL]
theorem szN_next (A : List Rc) (j : Nat) (h : j < A.length) : szN A (j + 1) = szN A j + (7 + (A.getD j rc0).2.length) := by
  unfold szN
  rw [frameL_next A j h, List.length_append, recL_length]
theorem szN_all (A : List Rc) : szN A A.length = (frameL A).length := by rw [szN, List.take_length]
theorem szN_lt (A : List Rc) (i : Nat) : ∀ d, i + d < A.length → szN A i < szN A (i + d + 1)
  | 0, h => by rw [Nat.add_zero] at h ⊢; rw [szN_next A i h]; omega
  | d + 1, h => by
    have h1 := szN_lt A i d (by omega)
    have h2 := szN_next A (i + d + 1) (by omega)
    rw [← Nat.add_assoc]
    omega
theorem szN_cons (r : Rc) (A : List Rc) (i : Nat) : szN (r :: A) (i + 1) = (recL r).length + szN A i := by simp [szN, frameL]
/-- where the records end -/
def endF (A : List Rc) : Nat → Lit → Option Value
  | 0 => fun l => if l.sameKey (.int .i64 0) = true then some (.int .i64 0) else none
  | j + 1 => fun l => if l.sameKey (.int .i64 (szN A (j + 1) : Int)) = true then some (.int .i64 ((j : Int) + 1)) else endF A j l
theorem same_int (a b : Int) : (Lit.int .i64 a).sameKey (.int .i64 b) = true ↔ a = b := by
  constructor
  · intro h
    have := WideAt.sameKey_eq h
    simpa using this
  · rintro rfl
    exact WideAt.sameKey_self (show WideAt.IsKeyLit (Lit.int .i64 a) from trivial)
theorem endF_miss (A : List Rc) (k : Nat) : ∀ j, (∀ i, i ≤ j → ¬ k = szN A i) → endF A j (.int .i64 (k : Int)) = none
  | 0, h => by
    have h0 := h 0 (Nat.le_refl _)
    rw [szN_zero] at h0
    simp only [endF]
    rw [if_neg]
    rw [same_int]; omega
  | j + 1, h => by
    have h1 := h (j + 1) (Nat.le_refl _)
    simp only [endF]
    rw [if_neg (by rw [same_int]; omega)]
    exact endF_miss A k j fun i hi => h i (by omega)
theorem endF_hit (A : List Rc) (i : Nat) : ∀ d, i + d ≤ A.length → endF A (i + d) (.int .i64 (szN A i : Int)) = some (.int .i64 (i : Int))
  | 0, h => by
    rw [Nat.add_zero]
    cases i with
    | zero =>
      simp only [endF]
      rw [if_pos (by rw [same_int, szN_zero]; rfl)]; rfl
    | succ i =>
      simp only [endF]
      rw [if_pos (by rw [same_int])]
      rw [show ((i : Int) + 1) = ((i + 1 : Nat) : Int) by omega]
  | d + 1, h => by
    have h1 := szN_lt A i d (by omega)
    simp only [endF]
    rw [if_neg (by rw [same_int]; intro he; have : szN A i = szN A (i + d + 1) := by exact_mod_cast he
                   omega)]
    exact endF_hit A i d (by omega)
theorem cut_err (r : Rc) (hr : rightR r = true) (k : Nat) (h0 : 0 < k) (hk : k < (recL r).length) : errR ((recL r).take k) = 4 := by
  have hl := recL_length r
  unfold errR
  rw [if_neg]
  rintro ⟨h1, -, -, h4⟩
  have hlen : ((recL r).take k).length = k := by rw [List.length_take]; omega
  rw [hlen] at h1 h4
  have hf := (recL_first r [] hr).2.1
  have hlr : lenR ((recL r).take k) = r.2.length := by
    unfold lenR
    rw [List.take_take, Nat.min_eq_left (by omega)]
    unfold recL headR
    simp only [rightR, Bool.and_eq_true, decide_eq_true_eq] at hr
    rw [List.append_assoc, List.append_assoc, List.take_append_of_le_length (by rw [putL_length]; omega), List.take_of_length_le (by rw [putL_length]; omega), getN_putL]
    exact Nat.mod_eq_of_lt (by omega)
  rw [hlr] at h4
  omega
theorem parse_cut (A : List Rc) (hA : ∀ r ∈ A, rightR r = true) (k : Nat) (hk : k ≤ (frameL A).length) :
    (∃ i, i ≤ A.length ∧ k = szN A i ∧ parseP ((frameL A).take k) = .ok (A.take i)) ∨ ((∀ i, i ≤ A.length → ¬ k = szN A i) ∧ parseP ((frameL A).take k) = .error 4) := by
  induction A generalizing k with
  | nil =>
    left
    have : k = 0 := by simpa [frameL] using hk
    subst this
    exact ⟨0, Nat.le_refl _, by rw [szN_zero], by rw [List.take_zero, parseP_nil]; rfl⟩
  | cons r A ih =>
    have hr := hA r (by simp)
    have e : frameL (r :: A) = recL r ++ frameL A := by simp [frameL]
    rw [e] at hk ⊢
    by_cases h0 : k = 0
    · left
      subst h0
      exact ⟨0, by omega, by rw [szN_zero], by rw [List.take_zero, parseP_nil]; rfl⟩
    · by_cases hlt : k < (recL r).length
      · right
        have ht : (recL r ++ frameL A).take k = (recL r).take k := List.take_append_of_le_length (by omega)
        have he := cut_err r hr k (by omega) hlt
        refine ⟨fun i hi => ?_, ?_⟩
        · cases i with
          | zero => rw [szN_zero]; exact h0
          | succ i => rw [szN_cons]; omega
        · rw [ht, parseP_err _ (by
            intro hh
            have := congrArg List.length hh
            rw [List.length_take, List.length_nil] at this
            omega) (by rw [he]; decide), he]
      · have ht : (recL r ++ frameL A).take k = recL r ++ (frameL A).take (k - (recL r).length) := by
          rw [List.take_append, List.take_of_length_le (by omega)]
        have hp := parseP_frame [r] ((frameL A).take (k - (recL r).length)) (by intro x hx; simp at hx; subst hx; exact hr)
        have e1 : frameL [r] = recL r := by simp [frameL]
        rw [e1] at hp
        rw [ht, hp]
        rw [List.length_append] at hk
        rcases ih (fun x hx => hA x (by simp [hx])) (k - (recL r).length) (by omega) with ⟨i, h1, h2, h3⟩ | ⟨h1, h2⟩
        · left
          refine ⟨i + 1, by simp; omega, by rw [szN_cons]; omega, ?_⟩
          rw [h3]
          simp [Except.map]
        · right
          refine ⟨fun i hi => ?_, by rw [h2]; rfl⟩
          cases i with
          | zero => rw [szN_zero]; exact h0
          | succ i =>
            rw [szN_cons]
            have := h1 i (by simp at hi; omega)
            omega
end Go.Proofs.Ytdjaldkjpmcbdaa
