/-
  Layer 28: the bytes of a request are one again; no beginning of them is.
-/
import Derived.Test.YtkbikflincjhhaaMReq
namespace Go.Proofs.Ytkbikflincjhhaa
set_option linter.unusedSimpArgs false
set_option linter.unusedVariables false
open Go.RowKit
theorem getD_app (a b : List UInt8) (n m : Nat) (h : a.length = n) : (a ++ b).getD (n + m) 0 = b.getD m 0 := by
  subst h
  unfold List.getD
  rw [List.getElem?_append_right (by omega), Nat.add_sub_cancel_left]
theorem byte_one (n : Nat) (h : n ≤ 255) (b : List UInt8) : ((putL n 1 ++ b).getD 0 0).toNat = n := by
  have e : putL n 1 = [UInt8.ofNat n] := by simp [putL, Nat.mod_eq_of_lt (show n < 256 by omega)]
  rw [e]
  simp [List.getD]
  omega
theorem lnT_length (x : LnM) : (lnT x).length = 10 := by
  unfold lnT putS
  rw [if_pos (by decide), if_pos (by decide), List.length_append, putL_length, putL_length]
  rfl
theorem lns_length : ∀ L : List LnM, (L.flatMap lnT).length = 10 * L.length
  | [] => rfl
  | x :: L => by rw [List.flatMap_cons, List.length_append, lnT_length, lns_length L, List.length_cons]; omega
theorem poT_eq (L : List LnM) : poT L = putL L.length 1 ++ L.flatMap lnT := by
  unfold poT
  rw [show (1 : Int) = ((1 : Nat) : Int) from rfl, putS_nat _ 1 (by decide)]
theorem poT_length (L : List LnM) : (poT L).length = 1 + 10 * L.length := by rw [poT_eq, List.length_append, putL_length, lns_length]
theorem encT_kd (r : RqM) (h0 : 0 ≤ r.k) (h1 : r.k ≤ 255) : (kd (encT r) : Int) = r.k := by
  unfold kd encT
  rw [byte_one _ (by omega)]
  omega
theorem encT_length (r : RqM) : (encT r).length = 1 + (encB r).length := by unfold encT; rw [List.length_append, putL_length]
theorem enc_kind {r : RqM} (h : encOk r = true) : 1 ≤ r.k ∧ r.k ≤ 14 := by
  by_cases hk : r.k < 1 ∨ 14 < r.k
  · rw [encOk_no hk] at h; cases h
  · omega
/-- the bytes of a request are a request's -/
theorem enc_dec (r : RqM) (h : encOk r = true) : decO (encT r) = true ∧ (kd (encT r) : Int) = r.k := by
  obtain ⟨k0, k1⟩ := enc_kind h
  have hkd := encT_kd r (by omega) (by omega)
  refine ⟨decide_eq_true ?_, hkd⟩
  have hlen := encT_length r
  refine ⟨by omega, by omega, by omega, ?_, ?_⟩
  · have hcase : r.k = 1 ∨ (r.k = 2 ∨ r.k = 3 ∨ r.k = 13 ∨ r.k = 14) ∨ (r.k = 4 ∨ r.k = 9) ∨ r.k = 5 ∨ r.k = 6 ∨ (r.k = 7 ∨ r.k = 8) ∨ r.k = 10 ∨ (r.k = 11 ∨ r.k = 12) := by omega
    rcases hcase with hk | hk | hk | hk | hk | hk | hk | hk
    · rw [encOk_1 hk, Bool.and_eq_true] at h
      have hs := of_decide_eq_true h.2
      rw [lenOf_1 (by omega), hlen, encB_1 hk]
      have e : (encT r).getD 4 0 = (putL r.name.size 1 ++ r.name.data.toList).getD 0 0 := by
        unfold encT
        rw [encB_1 hk, show (4 : Nat) = 1 + 3 from rfl, getD_app _ _ 1 3 (putL_length _ _), show (3 : Nat) = 2 + 1 from rfl, getD_app _ _ 2 1 (putL_length _ _), show (1 : Nat) = 1 + 0 from rfl, getD_app _ _ 1 0 (putL_length _ _)]
      rw [e, byte_one _ hs]
      simp only [List.length_append, putL_length, size_list]
      omega
    · rw [lenOf_0 (by omega), hlen, encB_0 hk]; rfl
    · rw [encOk_4 hk] at h
      have h8 : r.L.length ≤ 8 := by
        unfold textOk at h
        rw [Bool.and_eq_true] at h
        exact of_decide_eq_true h.1
      rw [lenOf_4 (by omega), hlen, encB_4 hk]
      have e : (encT r).getD 9 0 = (poT r.L).getD 0 0 := by
        unfold encT
        rw [encB_4 hk, show (9 : Nat) = 1 + 8 from rfl, getD_app _ _ 1 8 (putL_length _ _), show (8 : Nat) = 8 + 0 from rfl, getD_app _ _ 8 0 (putL_length _ _)]
      rw [e, poT_eq, byte_one _ (by omega), ← poT_eq]
      simp only [List.length_append, putL_length, poT_length]
      omega
    · rw [lenOf_5 (by omega), hlen, encB_5 hk]; simp only [List.length_append, putL_length]
    · rw [lenOf_6 (by omega), hlen, encB_6 hk]; simp only [List.length_append, putL_length]
    · rw [lenOf_7 (by omega), hlen, encB_7 hk]; simp only [List.length_append, putL_length]
    · rw [lenOf_10 (by omega), hlen, encB_10 hk]; simp only [List.length_append, putL_length]
    · rw [lenOf_11 (by omega), hlen, encB_11 hk]; simp only [List.length_append, putL_length]
  · intro h4
    have hk : r.k = 4 ∨ r.k = 9 := by omega
    rw [encOk_4 hk] at h
    have h8 : r.L.length ≤ 8 := by
      unfold textOk at h
      rw [Bool.and_eq_true] at h
      exact of_decide_eq_true h.1
    have e : (encT r).getD 9 0 = (poT r.L).getD 0 0 := by
      unfold encT
      rw [encB_4 hk, show (9 : Nat) = 1 + 8 from rfl, getD_app _ _ 1 8 (putL_length _ _), show (8 : Nat) = 8 + 0 from rfl, getD_app _ _ 8 0 (putL_length _ _)]
    rw [e, poT_eq, byte_one _ (by omega)]
    exact h8
/-- a request's bytes are few -/
theorem dec_short {l : List UInt8} (h : decO l = true) : l.length ≤ 260 := by
  obtain ⟨h1, hk1, hk2, hl, h8⟩ := of_decide_eq_true h
  rw [hl]
  have := (l.getD 4 0).toNat_lt
  unfold lenOf
  split
  · omega
  · split
    · have := h8 (by assumption); omega
    · repeat (split; omega)
      omega
/-- of two requests' bytes the one isn't a beginning of the other -/
theorem dec_prefix {a b : List UInt8} (h : decO (a ++ b) = true) (h' : decO a = true) : b = [] := by
  obtain ⟨h1, hk1, hk2, hl, h8⟩ := of_decide_eq_true h
  obtain ⟨g1, gk1, gk2, gl, g8⟩ := of_decide_eq_true h'
  have at_ : ∀ i, i < a.length → (a ++ b).getD i 0 = a.getD i 0 := fun i hi => by simp [List.getD, List.getElem?_append_left hi]
  have ek : kd (a ++ b) = kd a := by unfold kd; rw [at_ 0 (by omega)]
  have e : lenOf (a ++ b) = lenOf a := by
    by_cases k1 : kd a = 1
    · rw [lenOf_1 (by omega), lenOf_1 k1]
      rw [lenOf_1 k1] at gl
      rw [at_ 4 (by omega)]
    · by_cases k4 : kd a = 4 ∨ kd a = 9
      · rw [lenOf_4 (by omega), lenOf_4 k4]
        rw [lenOf_4 k4] at gl
        rw [at_ 9 (by omega)]
      · unfold lenOf
        rw [ek, if_neg k1, if_neg k4, if_neg k1, if_neg k4]
  rw [e, ← gl, List.length_append] at hl
  exact List.length_eq_zero_iff.1 (by omega)
theorem decR_ok (l : List UInt8) (h : decO l = true) : RqOk (decR l) := by
  have hsh := dec_short h
  obtain ⟨h1, hk1, hk2, hl, h8⟩ := of_decide_eq_true h
  have z : RqOk rq0 := ⟨by decide, by decide, by unfold inR; decide, by unfold inR; decide, by unfold inR; decide, by decide, by decide, (fun x hx => by cases hx), by decide, by unfold inR; decide⟩
  have a8 := fl_lt l 1 8
  have a94 := fl_lt l 9 4
  have a12 := fl_lt l 1 2
  have a14 := fl_lt l 1 4
  have a172 := fl_lt l 17 2
  have a31 := fl_lt l 3 1
  have hw := fun n : Nat => show inR (wrap64 (n : Int)) from by unfold inR wrap64; omega
  have hi : ∀ n : Nat, n < 4294967296 → inR (n : Int) := fun n hn => by unfold inR; omega
  have k8 : (0 : Int) ≤ (fl l 1 8 : Int) ∧ (fl l 1 8 : Int) ≤ 18446744073709551615 := by omega
  rcases kinds hk1 hk2 with hk | hk | hk | hk | hk | hk | hk | hk | hk | hk | hk | hk | hk | hk
  · rw [decR_1 hk]
    exact { z with k := ⟨by dsimp only; omega, by dsimp only; omega⟩, code := hi _ (by omega), ak := ⟨by dsimp only; omega, by dsimp only; omega⟩, name := by dsimp only; rw [bs_size, List.length_drop]; omega }
  · rw [decR_2 hk]; exact { z with k := ⟨by dsimp only; omega, by dsimp only; omega⟩ }
  · rw [decR_3 hk]; exact { z with k := ⟨by dsimp only; omega, by dsimp only; omega⟩ }
  · rw [decR_4 hk]; exact { z with k := ⟨by dsimp only; omega, by dsimp only; omega⟩, key := k8, L := fun x hx => (ln_code _ _ x hx).2, few := by dsimp only; rw [readL_len]; have := h8 (Or.inl hk); omega }
  · rw [decR_5 hk]; exact { z with k := ⟨by dsimp only; omega, by dsimp only; omega⟩, key := k8, ref := hi _ (by omega) }
  · rw [decR_6 hk]; exact { z with k := ⟨by dsimp only; omega, by dsimp only; omega⟩, key := k8, ref := hi _ (by omega), amt := hw _ }
  · rw [decR_7 hk]; exact { z with k := ⟨by dsimp only; omega, by dsimp only; omega⟩, key := k8, amt := hw _, code := hi _ (by omega) }
  · rw [decR_8 hk]; exact { z with k := ⟨by dsimp only; omega, by dsimp only; omega⟩, key := k8, amt := hw _, code := hi _ (by omega) }
  · rw [decR_9 hk]; exact { z with k := ⟨by dsimp only; omega, by dsimp only; omega⟩, key := k8, L := fun x hx => (ln_code _ _ x hx).2, few := by dsimp only; rw [readL_len]; have := h8 (Or.inr hk); omega }
  · rw [decR_10 hk]; exact { z with k := ⟨by dsimp only; omega, by dsimp only; omega⟩, n := hi _ (by omega) }
  · rw [decR_11 hk]; exact { z with k := ⟨by dsimp only; omega, by dsimp only; omega⟩, n := hi _ (by omega) }
  · rw [decR_12 hk]; exact { z with k := ⟨by dsimp only; omega, by dsimp only; omega⟩, n := hi _ (by omega) }
  · rw [decR_13 hk]; exact { z with k := ⟨by dsimp only; omega, by dsimp only; omega⟩ }
  · rw [decR_14 hk]; exact { z with k := ⟨by dsimp only; omega, by dsimp only; omega⟩ }
end Go.Proofs.Ytkbikflincjhhaa
