/-
  Layer 28: bytes that are a reply's are its bytes (plain).
-/
import Derived.Test.YtkbikflincjhhaaRepA
namespace Go.Proofs.Ytkbikflincjhhaa
set_option linter.unusedSimpArgs false
set_option linter.unusedVariables false
open Go.RowKit Go.WideShapes Go.ChangeShapes Go.ChangeAt Go.Deep
theorem end_here (l : List UInt8) (o w : Nat) (e : l.length = o + w) : (l.drop o).take w = l.drop o := List.take_of_length_le (by rw [List.length_drop]; omega)
theorem put0 (l : List UInt8) (w : Nat) (hw : w ≤ 8) (h : w ≤ l.length) : putL (wu (fl l 0 w : Int)) w = l.take w := by rw [wu_fl _ _ _ hw, put_fl _ _ _ (by omega), List.drop_zero]
theorem putw (l : List UInt8) (o w : Nat) (hw : w ≤ 8) (h : o + w ≤ l.length) : putL (wu (wrap64 (fl l o w : Int))) w = (l.drop o).take w := by rw [wu_flw _ _ _ hw, put_fl _ _ _ h]
theorem putn (l : List UInt8) (o w : Nat) (hw : w ≤ 8) (h : o + w ≤ l.length) : putL (wu (fl l o w : Int)) w = (l.drop o).take w := by rw [wu_fl _ _ _ hw, put_fl _ _ _ h]
theorem fit5_fl (l : List UInt8) (o : Nat) : fit5 (fl l o 5 : Int) = true := decide_eq_true (by have := fl_lt l o 5; omega)
theorem putf (l : List UInt8) (o : Nat) (h : o < l.length) (h1 : (l.getD o 0).toNat ≤ 1) : putL (fl1 (decide (fl l o 1 = 1))) 1 = (l.drop o).take 1 := by
  rw [← put_fl l o 1 (by omega)]
  have e := byte_fl l o h
  have e2 : fl l o 1 = 0 ∨ fl l o 1 = 1 := by omega
  rcases e2 with e2 | e2 <;> rw [e2] <;> rfl
theorem totT_put (l : List UInt8) (o : Nat) (h : l.length = o + 44) (x : RpM) (hc : x.c = (fl l o 4 : Int)) (hs : x.s = wrap64 (fl l (o + 4) 8 : Int)) (hv : x.v = wrap64 (fl l (o + 12) 8 : Int)) (hr : x.r = wrap64 (fl l (o + 20) 8 : Int)) (hi : x.i = wrap64 (fl l (o + 28) 8 : Int)) (ho : x.o = wrap64 (fl l (o + 36) 8 : Int)) : totT x = l.drop o := by
  unfold totT
  rw [hc, hs, hv, hr, hi, ho, putn _ _ _ (by decide) (by omega), putw _ _ _ (by decide) (by omega), putw _ _ _ (by decide) (by omega), putw _ _ _ (by decide) (by omega), putw _ _ _ (by decide) (by omega), putw _ _ _ (by decide) (by omega), end_here l (o + 36) 8 (by omega)]
  rw [cut_here l (o + 28) 8, cut_here l (o + 20) 8, cut_here l (o + 12) 8, cut_here l (o + 4) 8, cut_here l o 4]
theorem repR_enc (k : Nat) (hk : 1 ≤ k ∧ k ≤ 14) (l : List UInt8) (h : repD k l = true) : repOk k (repR k l) = true ∧ repB k (repR k l) = l := by
  have hc : Plain k ∨ k = 3 ∨ k = 10 ∨ k = 11 ∨ k = 12 ∨ k = 13 ∨ k = 14 := by unfold Plain; omega
  rcases hc with hp | rfl | rfl | rfl | rfl | rfl | rfl
  · obtain ⟨q1, q2⟩ := repD_plain hp l
    rw [q1, decide_eq_true_eq] at h
    obtain ⟨q3, q4⟩ := rep_plain hp (repR k l)
    rw [q3, q4, q2]
    exact ⟨fit4_fl l 0, by dsimp only; rw [put0 _ _ (by decide) (by omega)]; exact List.take_of_length_le (by omega)⟩
  · rw [show repD 3 l = decide (l.length = 48) from rfl, decide_eq_true_eq] at h
    refine ⟨by rw [show repOk 3 (repR 3 l) = (fit4 (fl l 0 4 : Int) && fit4 (fl l 4 4 : Int)) from rfl, fit4_fl, fit4_fl]; rfl, ?_⟩
    rw [show repB 3 (repR 3 l) = putL (wu (fl l 0 4 : Int)) 4 ++ totT (repR 3 l) from rfl, totT_put l 4 (by omega) _ rfl rfl rfl rfl rfl rfl, put0 _ _ (by decide) (by omega), List.take_append_drop]
  · rw [show repD 10 l = decide (l.length = 8) from rfl, decide_eq_true_eq] at h
    refine ⟨rfl, ?_⟩
    rw [show repB 10 (repR 10 l) = putL (wu (wrap64 (fl l 0 8 : Int))) 8 from rfl, putw _ _ _ (by decide) (by omega), end_here l 0 8 (by omega), List.drop_zero]
  · rw [repD_tx, decide_eq_true_eq] at h
    obtain ⟨p2, p3, p4, p5⟩ := h
    have h9 : ((l.drop 26).getD 0 0) = l.getD 26 0 := drop_at l 26
    have hd : (l.drop 26).length = 1 + 10 * (l.getD 26 0).toNat := by rw [List.length_drop]; omega
    constructor
    · rw [show repOk 11 (repR 11 l) = ((fit4 (fl l 1 4 : Int) && fit4 (fl l 5 4 : Int)) && textOk (readL (bs (l.drop 26)) (l.getD 26 0).toNat)) from rfl, fit4_fl, fit4_fl, read_ok _ _ p4]; rfl
    · rw [show repB 11 (repR 11 l) = putL ((fl l 0 1 : Int)).toNat 1 ++ (putL (wu (fl l 1 4 : Int)) 4 ++ (putL (wu (fl l 5 4 : Int)) 4 ++ (putL (wu (wrap64 (fl l 9 8 : Int))) 8 ++ (putL (wu (wrap64 (fl l 17 8 : Int))) 8 ++ (putL (fl1 (decide (fl l 25 1 = 1))) 1 ++ poT (readL (bs (l.drop 26)) (l.getD 26 0).toNat)))))) from rfl]
      rw [Int.toNat_natCast, put_fl _ _ _ (by omega), putn _ _ _ (by decide) (by omega), putn _ _ _ (by decide) (by omega), putw _ _ _ (by decide) (by omega), putw _ _ _ (by decide) (by omega), putf _ _ (by omega) p3, po_put (l.drop 26) (l.getD 26 0).toNat (by omega) (by rw [h9]), show (l.drop 26).take (1 + 10 * (l.getD 26 0).toNat) = l.drop 26 from List.take_of_length_le (by omega)]
      rw [cut_here l 25 1, cut_here l 17 8, cut_here l 9 8, cut_here l 5 4, cut_here l 1 4, cut_here l 0 1, List.drop_zero]
  · rw [show repD 12 l = decide (l.length = 44) from rfl, decide_eq_true_eq] at h
    refine ⟨by rw [show repOk 12 (repR 12 l) = fit4 (fl l 0 4 : Int) from rfl, fit4_fl], ?_⟩
    rw [show repB 12 (repR 12 l) = totT (repR 12 l) from rfl, totT_put l 0 (by omega) _ rfl rfl rfl rfl rfl rfl, List.drop_zero]
  · rw [show repD 13 l = decide (l.length = 16) from rfl, decide_eq_true_eq] at h
    refine ⟨rfl, ?_⟩
    rw [show repB 13 (repR 13 l) = putL (wu (wrap64 (fl l 0 8 : Int))) 8 ++ putL (wu (wrap64 (fl l 8 8 : Int))) 8 from rfl, putw _ _ _ (by decide) (by omega), putw _ _ _ (by decide) (by omega), end_here l 8 8 (by omega), cut_here l 0 8, List.drop_zero]
  · rw [show repD 14 l = decide (l.length = 10 ∧ (l.getD 9 0).toNat ≤ 1) from rfl, decide_eq_true_eq] at h
    obtain ⟨h4, h5⟩ := h
    refine ⟨by rw [show repOk 14 (repR 14 l) = (fit4 (fl l 0 4 : Int) && fit5 (fl l 4 5 : Int)) from rfl, fit4_fl, fit5_fl]; rfl, ?_⟩
    rw [show repB 14 (repR 14 l) = putL (wu (fl l 0 4 : Int)) 4 ++ (putL (wu (fl l 4 5 : Int)) 5 ++ putL (fl1 (decide (fl l 9 1 = 1))) 1) from rfl, putn _ _ _ (by decide) (by omega), putn _ _ _ (by decide) (by omega), putf _ _ (by omega) h5, end_here l 9 1 (by omega), cut_here l 4 5, cut_here l 0 4, List.drop_zero]
/-- bytes that are a reply's are its bytes -/
theorem par_enc (k : Nat) (hk : 1 ≤ k ∧ k ≤ 14) (l : List UInt8) (h : parO k l = true) : rencOk k (parR k l) = true ∧ rencT k (parR k l) = l := by
  unfold parO at h
  rw [Bool.and_eq_true, decide_eq_true_eq] at h
  obtain ⟨h1, h2⟩ := h
  have hf := first_byte l h1
  have hlt := kd_lt l
  by_cases h0 : kd l = 0
  · rw [if_pos h0] at h2
    obtain ⟨e1, e2⟩ := repR_enc k hk _ h2
    unfold parR rencOk rencT
    rw [if_pos h0, rep_err, if_pos rfl, if_pos rfl, e2]
    refine ⟨e1, ?_⟩
    rw [show putL (wu (0 : Int)) 1 = putL (kd l) 1 by rw [h0]; rfl, hf, List.take_append_drop]
  · rw [if_neg h0, decide_eq_true_eq] at h2
    unfold parR rencOk rencT
    rw [if_neg h0]
    dsimp only
    rw [if_neg (by omega), if_neg (by omega), List.append_nil, wu_nat _ (by omega), hf]
    exact ⟨decide_eq_true (by omega), List.take_of_length_le (by omega)⟩
end Go.Proofs.Ytkbikflincjhhaa
