/-
  Layer 28: what is written of a reply is told again; nothing longer is (plain).
-/
import Derived.Test.YtkbikflincjhhaaMRep
namespace Go.Proofs.Ytkbikflincjhhaa
set_option linter.unusedSimpArgs false
set_option linter.unusedVariables false
open Go.RowKit Go.WideShapes Go.ChangeShapes Go.ChangeAt Go.Deep
theorem totT_length (x : RpM) : (totT x).length = 44 := by unfold totT; simp only [List.length_append, putL_length]
theorem rep_told (k : Nat) (hk : 1 ≤ k ∧ k ≤ 14) (x : RpM) (h : repOk k x = true) : repD k (repB k x) = true := by
  have hc : Plain k ∨ k = 3 ∨ k = 10 ∨ k = 11 ∨ k = 12 ∨ k = 13 ∨ k = 14 := by unfold Plain; omega
  rcases hc with hp | rfl | rfl | rfl | rfl | rfl | rfl
  · rw [(repD_plain hp _).1, (rep_plain hp x).2, putL_length]; rfl
  · show decide ((putL (wu x.num) 4 ++ totT x).length = 48) = true
    rw [List.length_append, putL_length, totT_length]; rfl
  · show decide ((putL (wu x.a0) 8).length = 8) = true
    rw [putL_length]; rfl
  · have h2 : ((fit4 x.tsh && fit4 x.tr) && textOk x.L) = true := h
    rw [Bool.and_eq_true] at h2
    have h8 : x.L.length ≤ 8 := by
      have := h2.2
      unfold textOk at this
      rw [Bool.and_eq_true, decide_eq_true_eq] at this
      exact this.1
    rw [repD_tx, decide_eq_true_eq]
    have e25 : ((repB 11 x).getD 25 0).toNat = fl1 x.tv := by
      show ((putL x.tk.toNat 1 ++ (putL (wu x.tsh) 4 ++ (putL (wu x.tr) 4 ++ (putL (wu x.ta) 8 ++ (putL (wu x.tl) 8 ++ (putL (fl1 x.tv) 1 ++ poT x.L)))))).getD (1 + (4 + (4 + (8 + (8 + 0))))) 0).toNat = _
      rw [getD_app _ _ 1 _ (putL_length _ _), getD_app _ _ 4 _ (putL_length _ _), getD_app _ _ 4 _ (putL_length _ _), getD_app _ _ 8 _ (putL_length _ _), getD_app _ _ 8 _ (putL_length _ _), byte_one _ (by have := fl1_le x.tv; omega)]
    have e26 : ((repB 11 x).getD 26 0).toNat = x.L.length := by
      show ((putL x.tk.toNat 1 ++ (putL (wu x.tsh) 4 ++ (putL (wu x.tr) 4 ++ (putL (wu x.ta) 8 ++ (putL (wu x.tl) 8 ++ (putL (fl1 x.tv) 1 ++ poT x.L)))))).getD (1 + (4 + (4 + (8 + (8 + (1 + 0)))))) 0).toNat = _
      rw [getD_app _ _ 1 _ (putL_length _ _), getD_app _ _ 4 _ (putL_length _ _), getD_app _ _ 4 _ (putL_length _ _), getD_app _ _ 8 _ (putL_length _ _), getD_app _ _ 8 _ (putL_length _ _), getD_app _ _ 1 _ (putL_length _ _), poT_eq, byte_one _ (by omega)]
    have el : (repB 11 x).length = 27 + 10 * x.L.length := by
      show (putL x.tk.toNat 1 ++ (putL (wu x.tsh) 4 ++ (putL (wu x.tr) 4 ++ (putL (wu x.ta) 8 ++ (putL (wu x.tl) 8 ++ (putL (fl1 x.tv) 1 ++ poT x.L)))))).length = _
      simp only [List.length_append, putL_length, poT_length]
      omega
    have := fl1_le x.tv
    rw [e25, e26, el]
    omega
  · show decide ((totT x).length = 44) = true
    rw [totT_length]; rfl
  · show decide ((putL (wu x.a0) 8 ++ putL (wu x.a1) 8).length = 16) = true
    rw [List.length_append, putL_length, putL_length]; rfl
  · have el : (repB 14 x).length = 10 := by
      show (putL (wu x.num) 4 ++ (putL (wu x.tn) 5 ++ putL (fl1 x.rd) 1)).length = _
      simp only [List.length_append, putL_length]
    have e9 : ((repB 14 x).getD 9 0).toNat = fl1 x.rd := by
      show ((putL (wu x.num) 4 ++ (putL (wu x.tn) 5 ++ (putL (fl1 x.rd) 1))).getD (4 + (5 + 0)) 0).toNat = _
      rw [getD_app _ _ 4 _ (putL_length _ _), getD_app _ _ 5 _ (putL_length _ _), ← List.append_nil (putL (fl1 x.rd) 1), byte_one _ (by have := fl1_le x.rd; omega)]
    have := fl1_le x.rd
    show decide ((repB 14 x).length = 10 ∧ ((repB 14 x).getD 9 0).toNat ≤ 1) = true
    exact decide_eq_true ⟨el, by omega⟩
/-- what is written of a reply is a reply's, with its error -/
theorem renc_told (k : Nat) (hk : 1 ≤ k ∧ k ≤ 14) (x : RpM) (h : rencOk k x = true) : parO k (rencT k x) = true ∧ (parR k (rencT k x)).err = x.err := by
  unfold rencOk at h
  by_cases h0 : x.err = 0
  · rw [if_pos h0] at h
    have e : rencT k x = putL 0 1 ++ repB k x := by unfold rencT; rw [if_pos h0, h0]; rfl
    have e0 : kd (rencT k x) = 0 := by unfold kd; rw [e, byte_one _ (by omega)]
    have ed : (rencT k x).drop 1 = repB k x := by rw [e]; exact List.drop_left' (putL_length _ _)
    constructor
    · unfold parO
      rw [if_pos e0, ed, rep_told k hk x h, e, List.length_append, putL_length, Bool.and_true]
      exact decide_eq_true (by omega)
    · unfold parR
      rw [if_pos e0, rep_err, h0]
  · rw [if_neg h0] at h
    have h1 := of_decide_eq_true h
    have hw : wu x.err = x.err.toNat := by unfold wu; rw [IntKind.wrap_u64]; omega
    have e : rencT k x = putL x.err.toNat 1 ++ [] := by unfold rencT; rw [if_neg h0, hw]
    have e0 : kd (rencT k x) = x.err.toNat := by unfold kd; rw [e, byte_one _ (by omega)]
    constructor
    · unfold parO
      rw [if_neg (by omega), e, List.append_nil, putL_length]; rfl
    · unfold parR
      rw [if_neg (by omega)]
      show (kd (rencT k x) : Int) = x.err
      omega
theorem rep_prefix (k : Nat) (hk : 1 ≤ k ∧ k ≤ 14) {a b : List UInt8} (h : repD k a = true) (h' : repD k (a ++ b) = true) : b = [] := by
  have key : a.length = (a ++ b).length → b = [] := fun e => by
    rw [List.length_append] at e
    exact List.length_eq_zero_iff.mp (by omega)
  have hc : Plain k ∨ k = 3 ∨ k = 10 ∨ k = 11 ∨ k = 12 ∨ k = 13 ∨ k = 14 := by unfold Plain; omega
  rcases hc with hp | rfl | rfl | rfl | rfl | rfl | rfl
  · rw [(repD_plain hp _).1, decide_eq_true_eq] at h h'; exact key (by omega)
  · exact key ((of_decide_eq_true h).trans (of_decide_eq_true h').symm)
  · exact key ((of_decide_eq_true h).trans (of_decide_eq_true h').symm)
  · rw [repD_tx, decide_eq_true_eq] at h h'
    obtain ⟨p1, -, -, p2⟩ := h
    obtain ⟨-, -, -, q2⟩ := h'
    have e : (a ++ b).getD 26 0 = a.getD 26 0 := by simp [List.getD, List.getElem?_append_left (show 26 < a.length by omega)]
    rw [e] at q2
    exact key (by omega)
  · exact key ((of_decide_eq_true h).trans (of_decide_eq_true h').symm)
  · exact key ((of_decide_eq_true h).trans (of_decide_eq_true h').symm)
  · exact key ((of_decide_eq_true h).1.trans (of_decide_eq_true h').1.symm)
/-- nothing longer is a reply's -/
theorem par_prefix (k : Nat) (hk : 1 ≤ k ∧ k ≤ 14) {a b : List UInt8} (h : parO k a = true) (h' : parO k (a ++ b) = true) : b = [] := by
  unfold parO at h h'
  rw [Bool.and_eq_true, decide_eq_true_eq] at h h'
  obtain ⟨h1, h2⟩ := h
  have e : kd (a ++ b) = kd a := by unfold kd; simp [List.getD, List.getElem?_append_left (show 0 < a.length by omega)]
  have ed : (a ++ b).drop 1 = a.drop 1 ++ b := List.drop_append_of_le_length h1
  obtain ⟨-, h4⟩ := h'
  rw [e, ed] at h4
  by_cases h0 : kd a = 0
  · rw [if_pos h0] at h2 h4
    exact rep_prefix k hk h2 h4
  · rw [if_neg h0, decide_eq_true_eq] at h2 h4
    rw [List.length_append] at h4
    exact List.length_eq_zero_iff.mp (by omega)
end Go.Proofs.Ytkbikflincjhhaa
