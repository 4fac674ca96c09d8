/-
  Plain mathematics of layer 2: bits less than 32 apart are told.
-/
import Derived.Test.YtmhppjgclaahnaaM2
namespace Go.Proofs.Ytmhppjgclaahnaa
set_option linter.unusedSimpArgs false
set_option linter.unusedVariables false

theorem steps_zero (n : Nat) (s : St) : stepsB s (List.replicate n false) = Tn n s := by
  induction n generalizing s with
  | zero => rfl
  | succ n ih =>
    rw [List.replicate_succ, stepsB, List.foldl_cons, ← stepsB, ih, ← Tn_succ]
    congr 1
    simp [stepB, top]
theorem word_bit (l : List Bool) : ∀ (k i : Nat), k + l.length ≤ 32 → (h : i < l.length) → (word k l).getLsbD (31 - k - i) = l[i] := by
  induction l with
  | nil => intro k i _ h; simp at h
  | cons b l ih =>
    intro k i hk h
    simp only [List.length_cons] at hk h
    have hlow : ∀ (l : List Bool) (k j : Nat), k + l.length ≤ 32 → 32 - k ≤ j → (word k l).getLsbD j = false := by
      intro l
      induction l with
      | nil => intro k j _ _; simp [word]
      | cons c l ih2 =>
        intro k j hk hj
        simp only [List.length_cons] at hk
        simp only [word, BitVec.getLsbD_xor, BitVec.getLsbD_ushiftRight]
        rw [ih2 (k + 1) j (by omega) (by omega)]
        have : (top c).getLsbD (k + j) = false := by rw [BitVec.getLsbD_of_ge _ _ (by omega)]
        rw [this]; rfl
    have htop : ∀ (c : Bool) (j : Nat), j < 31 → (top c).getLsbD j = false := by
      intro c j hj
      have h' : ∀ (c : Bool) (j : Fin 31), (top c).getLsbD j.val = false := by decide
      exact h' c ⟨j, hj⟩
    simp only [word, BitVec.getLsbD_xor, BitVec.getLsbD_ushiftRight]
    cases i with
    | zero =>
      rw [hlow l (k + 1) _ (by omega) (by omega)]
      have : (top b).getLsbD (k + (31 - k - 0)) = b := by
        rw [show k + (31 - k - 0) = 31 by omega]
        cases b <;> decide
      rw [this]; simp
    | succ i =>
      rw [htop b _ (by omega)]
      have := ih (k + 1) i (by omega) (by omega)
      rw [show 31 - (k + 1) - i = 31 - k - (i + 1) by omega] at this
      rw [this]; simp
theorem word_ne (l : List Bool) (hl : l.length ≤ 32) (i : Nat) (h : i < l.length) (hi : l[i] = true) : word 0 l ≠ 0#32 := by
  intro e
  have := word_bit l 0 i (by omega) h
  rw [e, hi] at this
  simp at this

/-- one bit of a text turned -/
def flipU (x : UInt8) (q : Nat) : UInt8 := x ^^^ UInt8.ofNat (128 / 2 ^ q)
def flipAt (l : List UInt8) (p : Nat) : List UInt8 := l.set (p / 8) (flipU (l.getD (p / 8) 0) (p % 8))
theorem bitsU_flip (x : UInt8) (q : Nat) (hq : q < 8) : bitsU (flipU x q) = xorL (bitsU x) (List.replicate q false ++ true :: List.replicate (7 - q) false) := by
  have h : ∀ (y : BitVec 8) (q : Fin 8), bitsU (flipU ⟨y⟩ q.val) = xorL (bitsU ⟨y⟩) (List.replicate q.val false ++ true :: List.replicate (7 - q.val) false) := by decide +kernel
  exact h x.toBitVec ⟨q, hq⟩
theorem xorL_zero (a : List Bool) : xorL a (List.replicate a.length false) = a := by
  induction a with
  | nil => rfl
  | cons b a ih => simp only [xorL, List.length_cons, List.replicate_succ, List.zipWith_cons_cons, Bool.xor_false] at *; rw [ih]
theorem xorL_append (a b c d : List Bool) (h : a.length = c.length) : xorL (a ++ b) (c ++ d) = xorL a c ++ xorL b d := by
  unfold xorL; rw [List.zipWith_append h]
/-- one bit at a place of n -/
def oneAt (n p : Nat) : List Bool := List.replicate p false ++ true :: List.replicate (n - 1 - p) false
theorem oneAt_length (n p : Nat) (h : p < n) : (oneAt n p).length = n := by simp [oneAt]; omega
theorem bitsL_flip (l : List UInt8) (p : Nat) (hp : p < 8 * l.length) : bitsL (flipAt l p) = xorL (bitsL l) (oneAt (8 * l.length) p) := by
  have hlt : p / 8 < l.length := by omega
  have e : l = l.take (p / 8) ++ l[p / 8] :: l.drop (p / 8 + 1) := by
    rw [← List.drop_eq_getElem_cons hlt, List.take_append_drop]
  have e2 : flipAt l p = l.take (p / 8) ++ flipU l[p / 8] (p % 8) :: l.drop (p / 8 + 1) := by
    unfold flipAt
    rw [List.getD_eq_getElem?_getD, List.getElem?_eq_getElem hlt, Option.getD_some, List.set_eq_take_append_cons_drop, if_pos hlt]
  have e3 : oneAt (8 * l.length) p = List.replicate (8 * (p / 8)) false ++ ((List.replicate (p % 8) false ++ true :: List.replicate (7 - p % 8) false) ++ List.replicate (8 * (l.length - (p / 8 + 1))) false) := by
    unfold oneAt
    have a1 : List.replicate p false = List.replicate (8 * (p / 8)) false ++ List.replicate (p % 8) false := by
      rw [List.replicate_append_replicate]; congr 1; omega
    have a2 : List.replicate (8 * l.length - 1 - p) false = List.replicate (7 - p % 8) false ++ List.replicate (8 * (l.length - (p / 8 + 1))) false := by
      rw [List.replicate_append_replicate]; congr 1; omega
    rw [a1, a2]
    simp only [List.append_assoc, List.cons_append]
  have eb : bitsL l = bitsL (l.take (p / 8)) ++ (bitsU l[p / 8] ++ bitsL (l.drop (p / 8 + 1))) :=
    (congrArg bitsL e).trans (by simp only [bitsL, List.flatMap_append, List.flatMap_cons])
  have l1 : (bitsL (l.take (p / 8))).length = 8 * (p / 8) := by rw [bitsL_length, List.length_take]; omega
  have l2 : (bitsL (l.drop (p / 8 + 1))).length = 8 * (l.length - (p / 8 + 1)) := by rw [bitsL_length, List.length_drop]
  rw [e2, e3, eb]
  have ef : bitsL (l.take (p / 8) ++ flipU l[p / 8] (p % 8) :: l.drop (p / 8 + 1)) = bitsL (l.take (p / 8)) ++ (bitsU (flipU l[p / 8] (p % 8)) ++ bitsL (l.drop (p / 8 + 1))) := by simp [bitsL]
  rw [ef, xorL_append _ _ _ _ (by simp [l1]), xorL_append _ _ _ _ (by simp [bitsU_length]; omega), bitsU_flip _ _ (by omega)]
  have z1 := xorL_zero (bitsL (l.take (p / 8)))
  have z2 := xorL_zero (bitsL (l.drop (p / 8 + 1)))
  rw [l1] at z1
  rw [l2] at z2
  rw [z1, z2]
theorem flipAt_length (l : List UInt8) (p : Nat) : (flipAt l p).length = l.length := by simp [flipAt]

/-- the bits that are turned behind k rounds -/
def maskL (n first : Nat) (v : Nat) : Nat → List Bool
  | 0 => List.replicate n false
  | k + 1 => if v.testBit k then xorL (maskL n first v k) (oneAt n (first + k)) else maskL n first v k
def turned (l : List UInt8) (first v : Nat) : Nat → List UInt8
  | 0 => l
  | k + 1 => if v.testBit k then flipAt (turned l first v k) (first + k) else turned l first v k
theorem turned_length (l : List UInt8) (first v : Nat) : ∀ k, (turned l first v k).length = l.length
  | 0 => rfl
  | k + 1 => by
    simp only [turned]
    split
    · rw [flipAt_length, turned_length l first v k]
    · exact turned_length l first v k
theorem xorL_assoc : ∀ (a b c : List Bool), xorL (xorL a b) c = xorL a (xorL b c)
  | [], _, _ => by simp [xorL]
  | _ :: _, [], _ => by simp [xorL]
  | _ :: _, _ :: _, [] => by simp [xorL]
  | x :: a, y :: b, z :: c => by
    have := xorL_assoc a b c
    simp only [xorL, List.zipWith_cons_cons, Bool.xor_assoc] at *
    rw [this]
theorem turned_bits (l : List UInt8) (first v : Nat) : ∀ k, first + k ≤ 8 * l.length → bitsL (turned l first v k) = xorL (bitsL l) (maskL (8 * l.length) first v k)
  | 0, _ => by
    have := xorL_zero (bitsL l)
    rw [bitsL_length] at this
    exact this.symm
  | k + 1, h => by
    have ih := turned_bits l first v k (by omega)
    simp only [turned, maskL]
    split
    · rw [bitsL_flip _ _ (by rw [turned_length]; omega), turned_length, ih, xorL_assoc]
    · exact ih
def winL (v k : Nat) : List Bool := (List.range k).map v.testBit ++ List.replicate (32 - k) false
theorem winL_length (v k : Nat) (h : k ≤ 32) : (winL v k).length = 32 := by simp [winL]; omega
theorem winL_next (v k : Nat) (h : k < 32) : winL v (k + 1) = if v.testBit k then xorL (winL v k) (oneAt 32 k) else winL v k := by
  have e : winL v k = (List.range k).map v.testBit ++ (false :: List.replicate (31 - k) false) := by
    unfold winL; rw [← List.replicate_succ, show 31 - k + 1 = 32 - k by omega]
  have e1 : winL v (k + 1) = (List.range k).map v.testBit ++ (v.testBit k :: List.replicate (31 - k) false) := by
    unfold winL; rw [List.range_succ, List.map_append, List.append_assoc, show 32 - (k + 1) = 31 - k by omega]; rfl
  rw [e1, e]
  split
  · rename_i hb
    unfold oneAt
    have z := xorL_zero ((List.range k).map v.testBit)
    have z2 := xorL_zero (List.replicate (31 - k) false)
    simp only [List.length_map, List.length_range, List.length_replicate] at z z2
    rw [xorL_append _ _ _ _ (by simp), z, show 32 - 1 - k = 31 - k by omega]
    simp only [xorL, List.zipWith_cons_cons] at z2 ⊢
    rw [z2, hb]
    rfl
  · rename_i hb
    simp only [Bool.not_eq_true] at hb
    rw [hb]
theorem mask_win (n first v : Nat) (hf : first + 32 ≤ n) : ∀ k, k ≤ 32 → maskL n first v k = List.replicate first false ++ (winL v k ++ List.replicate (n - first - 32) false)
  | 0, _ => by
    simp only [maskL, winL, List.range_zero, List.map_nil, List.nil_append, Nat.sub_zero, List.replicate_append_replicate]
    congr 1; omega
  | k + 1, h => by
    have ih := mask_win n first v hf k (by omega)
    simp only [maskL]
    rw [winL_next v k (by omega), ih]
    split
    · have e : oneAt n (first + k) = List.replicate first false ++ (oneAt 32 k ++ List.replicate (n - first - 32) false) := by
        unfold oneAt
        have a2 : List.replicate (n - 1 - (first + k)) false = List.replicate (32 - 1 - k) false ++ List.replicate (n - first - 32) false := by
          rw [List.replicate_append_replicate]; congr 1; omega
        rw [a2, ← List.replicate_append_replicate]
        simp only [List.append_assoc, List.cons_append]
      have z1 := xorL_zero (List.replicate first false)
      have z2 := xorL_zero (List.replicate (n - first - 32) false)
      simp only [List.length_replicate] at z1 z2
      rw [e, xorL_append _ _ _ _ rfl, z1, xorL_append _ _ _ _ (by rw [winL_length v k (by omega), oneAt_length 32 k (by omega)]), z2]
    · rfl
/-- a text in which bits less than 32 apart are others has another state behind it -/
theorem tells (l : List UInt8) (first v : Nat) (hf : first + 32 ≤ 8 * l.length) (hv : v < 2 ^ 32) (h0 : v ≠ 0) (s : St) : moreS s (turned l first v 32) ≠ moreS s l := by
  intro e
  have hb := turned_bits l first v 32 hf
  have hm := mask_win (8 * l.length) first v hf 32 (by omega)
  have hx := steps_xor (bitsL l) (maskL (8 * l.length) first v 32) s 0#32 (by rw [hm, bitsL_length]; simp [winL]; omega)
  rw [BitVec.xor_zero, ← hb, hm] at hx
  unfold moreS at e
  rw [e] at hx
  have hz : stepsB 0#32 (List.replicate first false ++ (winL v 32 ++ List.replicate (8 * l.length - first - 32) false)) = 0#32 := by
    have := congrArg (stepsB s (bitsL l) ^^^ ·) hx
    simp only [BitVec.xor_self, ← BitVec.xor_assoc, BitVec.zero_xor] at this
    exact this.symm
  rw [steps_append, steps_append, steps_zero, steps_zero, Tn_zero, steps_word _ _ (by rw [winL_length v 32 (by omega)]; omega), BitVec.zero_xor] at hz
  have h1 : Tn (winL v 32).length (word 0 (winL v 32)) = 0#32 := Tn_inj (n := 8 * l.length - first - 32) (by rw [hz, Tn_zero])
  have h2 : word 0 (winL v 32) = 0#32 := Tn_inj (n := (winL v 32).length) (by rw [h1, Tn_zero])
  obtain ⟨i, hi⟩ : ∃ i, v.testBit i = true := Nat.exists_testBit_of_ne_zero h0
  have hi32 : i < 32 := by
    rcases Nat.lt_or_ge i 32 with h | h
    · exact h
    · rw [Nat.testBit_lt_two_pow (Nat.lt_of_lt_of_le hv (Nat.pow_le_pow_right (by omega) h))] at hi
      cases hi
  refine word_ne (winL v 32) (by rw [winL_length v 32 (by omega)]; omega) i (by rw [winL_length v 32 (by omega)]; exact hi32) ?_ h2
  simp [winL, hi32, hi]
end Go.Proofs.Ytmhppjgclaahnaa
