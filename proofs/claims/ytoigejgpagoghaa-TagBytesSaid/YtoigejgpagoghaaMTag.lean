/-
  Layer 6, plain: a tag's bytes, and the tag of bytes.
-/
import Derived.Test.YtoigejgpagoghaaPolyT
import Derived.Test.YtoigejgpagoghaaCur3
import Derived.Test.YtoigejgpagoghaaTag
namespace Go.Proofs.Ytoigejgpagoghaa
set_option linter.unusedSimpArgs false
set_option linter.unusedVariables false

/-- a tag's fields, as bytes -/
def fieldsL (k l s p n : Nat) : List UInt8 := putL k 1 ++ putL l 2 ++ putL s 8 ++ putL p 1 ++ putL n 1
def headL (k l s p n : Nat) : List UInt8 := [255] ++ fieldsL k l s p n ++ List.replicate 14 0
theorem fieldsL_length (k l s p n : Nat) : (fieldsL k l s p n).length = 13 := by simp [fieldsL]
theorem headL_length (k l s p n : Nat) : (headL k l s p n).length = 28 := by simp [headL, fieldsL_length]
def sumL (d h : List UInt8) : List UInt8 := putL (cN (d ++ h)) 4
theorem sumL_length (d h : List UInt8) : (sumL d h).length = 4 := by simp [sumL]
def headZ (k l s p n : Int) : List UInt8 := headL k.toNat l.toNat s.toNat p.toNat n.toNat
theorem headZ_length (k l s p n : Int) : (headZ k l s p n).length = 28 := headL_length ..
def frameL (k l s p n : Int) (d : List UInt8) : List UInt8 := headZ k l s p n ++ sumL d (headZ k l s p n)
theorem frameL_length (k l s p n : Int) (d : List UInt8) : (frameL k l s p n d).length = 32 := by simp [frameL, headZ_length, sumL_length]
/-- a field of bytes, from a place on -/
def fld (h : List UInt8) (a b : Nat) : Nat := getN ((h.drop a).take b)
theorem fld_lt (h : List UInt8) (a b : Nat) : fld h a b < 256 ^ b := by
  unfold fld
  refine Nat.lt_of_lt_of_le (getN_lt _) (Nat.pow_le_pow_right (by omega) ?_)
  rw [List.length_take]
  omega
theorem headZ_fields (k l s p n : Int) (h : TagOk k l p n) (s0 : 0 ≤ s) (s1 : s ≤ 18446744073709551615) :
    (fld (headZ k l s p n) 1 1 : Int) = k ∧ (fld (headZ k l s p n) 2 2 : Int) = l ∧ (fld (headZ k l s p n) 4 8 : Int) = s ∧ (fld (headZ k l s p n) 12 1 : Int) = p ∧ (fld (headZ k l s p n) 13 1 : Int) = n := by
  obtain ⟨h1, h2, h3, h4, h5, h6, h7, h8⟩ := h
  have e : headZ k l s p n = [255] ++ (putL k.toNat 1 ++ (putL l.toNat 2 ++ (putL s.toNat 8 ++ (putL p.toNat 1 ++ (putL n.toNat 1 ++ List.replicate 14 0))))) := by
    simp [headZ, headL, fieldsL]
  have cut : ∀ (a b c : List UInt8), ((a ++ (b ++ c)).drop a.length).take b.length = b := fun a b c => by rw [List.drop_left, List.take_left]
  have f1 := cut [255] (putL k.toNat 1) (putL l.toNat 2 ++ (putL s.toNat 8 ++ (putL p.toNat 1 ++ (putL n.toNat 1 ++ List.replicate 14 0))))
  have f2 := cut ([255] ++ putL k.toNat 1) (putL l.toNat 2) (putL s.toNat 8 ++ (putL p.toNat 1 ++ (putL n.toNat 1 ++ List.replicate 14 0)))
  have f3 := cut ([255] ++ putL k.toNat 1 ++ putL l.toNat 2) (putL s.toNat 8) (putL p.toNat 1 ++ (putL n.toNat 1 ++ List.replicate 14 0))
  have f4 := cut ([255] ++ putL k.toNat 1 ++ putL l.toNat 2 ++ putL s.toNat 8) (putL p.toNat 1) (putL n.toNat 1 ++ List.replicate 14 0)
  have f5 := cut ([255] ++ putL k.toNat 1 ++ putL l.toNat 2 ++ putL s.toNat 8 ++ putL p.toNat 1) (putL n.toNat 1) (List.replicate 14 0)
  simp only [List.append_assoc] at f1 f2 f3 f4 f5
  rw [← e] at f1 f2 f3 f4 f5
  simp only [List.length_append, putL_length, List.length_cons, List.length_nil, Nat.zero_add, Nat.reduceAdd] at f1 f2 f3 f4 f5
  unfold fld
  rw [f1, f2, f3, f4, f5]
  simp only [getN_putL]
  omega
/-- which error is told of bytes, and which tag -/
def OkHead (h : List UInt8) : Prop := TagOk (fld h 1 1) (fld h 2 2) (fld h 12 1) (fld h 13 1) ∧ headZ (fld h 1 1) (fld h 2 2) (fld h 4 8) (fld h 12 1) (fld h 13 1) = h
open Classical in
noncomputable def parseE (d b : List UInt8) : Int := if b.length ≠ 32 then 4 else if ¬ OkHead (b.take 28) then 4 else if sumL d (b.take 28) ≠ b.drop 28 then 5 else 0
open Classical in
noncomputable def parseV (d b : List UInt8) : Value := if parseE d b = 0 then tagV (fld b 1 1) (fld b 2 2) (fld b 4 8) (fld b 12 1) (fld b 13 1) else tagV 0 0 0 0 0
theorem fld_take (b : List UInt8) (a c : Nat) (h : a + c ≤ 28) : fld (b.take 28) a c = fld b a c := by
  unfold fld
  rw [List.drop_take, List.take_take, Nat.min_eq_left (by omega)]
theorem parseE_len (d b : List UInt8) (h : b.length ≠ 32) : parseE d b = 4 := by rw [parseE, if_pos h]
theorem parseE_form (d b : List UInt8) (h : ¬ OkHead (b.take 28)) : parseE d b = 4 := by
  by_cases h0 : b.length ≠ 32
  · rw [parseE, if_pos h0]
  · rw [parseE, if_neg h0, if_pos h]
theorem parseE_sum (d b : List UInt8) (h0 : b.length = 32) (h1 : OkHead (b.take 28)) (h : sumL d (b.take 28) ≠ b.drop 28) : parseE d b = 5 := by
  rw [parseE, if_neg (by omega), if_neg (by simpa using h1), if_pos h]
theorem parseE_ok (d b : List UInt8) (h0 : b.length = 32) (h1 : OkHead (b.take 28)) (h : sumL d (b.take 28) = b.drop 28) : parseE d b = 0 := by
  rw [parseE, if_neg (by omega), if_neg (by simpa using h1), if_neg (by simpa using h)]
theorem parseE_zero (d b : List UInt8) (h : parseE d b = 0) : b.length = 32 ∧ OkHead (b.take 28) ∧ sumL d (b.take 28) = b.drop 28 := by
  by_cases h0 : b.length = 32
  · by_cases h1 : OkHead (b.take 28)
    · by_cases h2 : sumL d (b.take 28) = b.drop 28
      · exact ⟨h0, h1, h2⟩
      · rw [parseE_sum d b h0 h1 h2] at h; omega
    · rw [parseE_form d b h1] at h; omega
  · rw [parseE_len d b h0] at h; omega
theorem parseE_is (d b : List UInt8) : parseE d b = 0 ∨ parseE d b = 4 ∨ parseE d b = 5 := by
  unfold parseE
  split
  · simp
  · split
    · simp
    · split <;> simp
theorem parseV_no (d b : List UInt8) (h : parseE d b ≠ 0) : parseV d b = tagV 0 0 0 0 0 := by rw [parseV, if_neg h]
theorem parseV_ok (d b : List UInt8) (h : parseE d b = 0) : parseV d b = tagV (fld b 1 1) (fld b 2 2) (fld b 4 8) (fld b 12 1) (fld b 13 1) := by rw [parseV, if_pos h]
theorem okHead_frame (k l s p n : Int) (h : TagOk k l p n) (s0 : 0 ≤ s) (s1 : s ≤ 18446744073709551615) : OkHead (headZ k l s p n) := by
  obtain ⟨e1, e2, e3, e4, e5⟩ := headZ_fields k l s p n h s0 s1
  unfold OkHead
  rw [e1, e2, e3, e4, e5]
  exact ⟨h, rfl⟩
theorem frame_take (k l s p n : Int) (d : List UInt8) : (frameL k l s p n d).take 28 = headZ k l s p n ∧ (frameL k l s p n d).drop 28 = sumL d (headZ k l s p n) := by
  unfold frameL
  have := headZ_length k l s p n
  rw [← this, List.take_left, List.drop_left]
  exact ⟨rfl, rfl⟩
theorem parse_frame (k l s p n : Int) (h : TagOk k l p n) (s0 : 0 ≤ s) (s1 : s ≤ 18446744073709551615) (d : List UInt8) :
    parseE d (frameL k l s p n d) = 0 ∧ parseV d (frameL k l s p n d) = tagV k l s p n := by
  obtain ⟨h1, h2⟩ := frame_take k l s p n d
  have hz : parseE d (frameL k l s p n d) = 0 := parseE_ok _ _ (frameL_length ..) (by rw [h1]; exact okHead_frame k l s p n h s0 s1) (by rw [h1, h2])
  refine ⟨hz, ?_⟩
  obtain ⟨e1, e2, e3, e4, e5⟩ := headZ_fields k l s p n h s0 s1
  rw [parseV_ok _ _ hz, ← fld_take _ 1 1 (by omega), ← fld_take _ 2 2 (by omega), ← fld_take _ 4 8 (by omega), ← fld_take _ 12 1 (by omega), ← fld_take _ 13 1 (by omega), h1, e1, e2, e3, e4, e5]
/-- bytes of the same length, but for one place -/
theorem one_other {a b : List UInt8} (i : Nat) (hi : i < a.length) (x : UInt8) (h : b = a.set i x) : ∃ u v, a = u ++ a.getD i 0 :: v ∧ b = u ++ x :: v ∧ u.length = i := by
  refine ⟨a.take i, a.drop (i + 1), ?_, ?_, by simp; omega⟩
  · have : a.getD i 0 = a[i] := by simp [List.getD, hi]
    rw [this, ← List.drop_eq_getElem_cons hi, List.take_append_drop]
  · rw [h, List.set_eq_take_append_cons_drop, if_pos hi]
theorem putL_inj4 (x y : Nat) (hx : x ≤ 4294967295) (hy : y ≤ 4294967295) (h : putL x 4 = putL y 4) : x = y := by
  have := congrArg getN h
  rw [getN_putL, getN_putL] at this
  omega
/-- one byte another one: the bytes are no tag's -/
theorem parse_torn (d b : List UInt8) (h : parseE d b = 0) (i : Nat) (hi : i < d.length + b.length) (x : UInt8) (hx : x ≠ (d ++ b).getD i 0) :
    parseE (((d ++ b).set i x).take d.length) (((d ++ b).set i x).drop d.length) ≠ 0 := by
  intro hc
  obtain ⟨h0, h1, h2⟩ := parseE_zero _ _ h
  obtain ⟨g0, g1, g2⟩ := parseE_zero _ _ hc
  clear h hc h1 g1
  have hb : b = b.take 28 ++ b.drop 28 := (List.take_append_drop 28 b).symm
  have hh28 : (b.take 28).length = 28 := by rw [List.length_take]; omega
  generalize b.take 28 = hd at *
  generalize b.drop 28 = tl at *
  subst hb
  subst h2
  have hl4 := sumL_length d hd
  by_cases h3 : i < d.length + 28
  · -- in the data or in the bytes up to the check
    have hi2 : i < (d ++ hd).length := by rw [List.length_append]; omega
    have e1 : (d ++ (hd ++ sumL d hd)).set i x = (d ++ hd).set i x ++ sumL d hd := by
      rw [← List.append_assoc, List.set_append_left _ _ hi2]
    have e2 : (d ++ (hd ++ sumL d hd)).getD i 0 = (d ++ hd).getD i 0 := by
      rw [← List.append_assoc]
      simp only [List.getD]
      rw [List.getElem?_append_left hi2]
    rw [e1] at g2
    rw [e2] at hx
    obtain ⟨u, v, hu, hv, -⟩ := one_other i hi2 x rfl
    have hlen : ((d ++ hd).set i x).length = d.length + 28 := by rw [List.length_set, List.length_append, hh28]
    have f1 : ((d ++ hd).set i x ++ sumL d hd).take d.length = ((d ++ hd).set i x).take d.length := by rw [List.take_append_of_le_length (by omega)]
    have f2 : ((d ++ hd).set i x ++ sumL d hd).drop d.length = ((d ++ hd).set i x).drop d.length ++ sumL d hd := by rw [List.drop_append_of_le_length (by omega)]
    have f3 : (((d ++ hd).set i x).drop d.length).length = 28 := by rw [List.length_drop]; omega
    have f4 : (((d ++ hd).set i x).drop d.length ++ sumL d hd).take 28 = ((d ++ hd).set i x).drop d.length := by
      rw [← f3, List.take_left]
    have f5 : (((d ++ hd).set i x).drop d.length ++ sumL d hd).drop 28 = sumL d hd := by
      rw [← f3, List.drop_left]
    rw [f1, f2, f4, f5] at g2
    unfold sumL at g2
    rw [List.take_append_drop] at g2
    have := putL_inj4 _ _ (cN_le _) (cN_le _) g2
    rw [hv, hu] at this
    exact hx (cN_one_other _ _ _ _ this)
  · -- in the check
    have hi3 : i - (d.length + 28) < 4 := by simp only [List.length_append] at hi; omega
    have e1 : (d ++ (hd ++ sumL d hd)).set i x = d ++ (hd ++ (sumL d hd).set (i - (d.length + 28)) x) := by
      rw [List.set_append_right _ _ (by omega), List.set_append_right _ _ (by omega), hh28, Nat.sub_sub]
    have e2 : (d ++ (hd ++ sumL d hd)).getD i 0 = (sumL d hd).getD (i - (d.length + 28)) 0 := by
      simp only [List.getD]
      rw [List.getElem?_append_right (by omega), List.getElem?_append_right (by omega), hh28, Nat.sub_sub]
    rw [e1, List.take_left, List.drop_left] at g2
    have f4 : (hd ++ (sumL d hd).set (i - (d.length + 28)) x).take 28 = hd := by rw [← hh28, List.take_left]
    have f5 : (hd ++ (sumL d hd).set (i - (d.length + 28)) x).drop 28 = (sumL d hd).set (i - (d.length + 28)) x := by rw [← hh28, List.drop_left]
    rw [f4, f5] at g2
    rw [e2] at hx
    apply hx
    have := congrArg (fun l => l.getD (i - (d.length + 28)) 0) g2
    simp only [List.getD] at this ⊢
    rw [this, List.getElem?_set_self (by omega)]
    rfl
/-- unlike tags have unlike bytes -/
theorem head_inj {k l s p n k' l' s' p' n' : Int} (h : TagOk k l p n) (s0 : 0 ≤ s) (s1 : s ≤ 18446744073709551615) (h' : TagOk k' l' p' n') (s0' : 0 ≤ s') (s1' : s' ≤ 18446744073709551615)
    (e : headZ k l s p n = headZ k' l' s' p' n') : k = k' ∧ l = l' ∧ s = s' ∧ p = p' ∧ n = n' := by
  obtain ⟨a1, a2, a3, a4, a5⟩ := headZ_fields k l s p n h s0 s1
  obtain ⟨b1, b2, b3, b4, b5⟩ := headZ_fields k' l' s' p' n' h' s0' s1'
  rw [e] at a1 a2 a3 a4 a5
  omega
end Go.Proofs.Ytoigejgpagoghaa
