/-
  Layer 26: what a till keeps of its closed shifts: plain.
-/
import Derived.Test.YtfdgfeohmkdnoaaMSh
--import Derived.Test.Zdbg
namespace Go.Proofs.Ytfdgfeohmkdnoaa
set_option linter.unusedSimpArgs false
set_option linter.unusedVariables false
open Go.RowKit Go.WideShapes Go.ChangeShapes Go.ChangeAt Go.Deep

/-- all that were closed: C; what was added since the last beginning: sm, ct -/
structure K26 (M : ShM) (C : List TotM) (sm ct : Int) (j : Nat) : Prop where
  keep : M.keep = 6
  next : M.next = (C.length : Int) + 1 + (if M.op = true then 1 else 0)
  L : M.L = C.drop (C.length - 6)
  len : C.length ≤ j
  smb : 0 ≤ sm ∧ sm ≤ (j : Int) * 1099511627776
  ctb : 0 ≤ ct ∧ ct ≤ (j : Int)
  now : M.op = true → sm = M.now.s + M.now.v + M.now.r + M.now.i + M.now.o ∧ ct = M.now.c
theorem K26.mono {M : ShM} {C : List TotM} {sm ct : Int} {j : Nat} (h : K26 M C sm ct j) : K26 M C sm ct (j + 1) :=
  ⟨h.keep, h.next, h.L, by have := h.len; omega, by have := h.smb; omega, by have := h.ctb; omega, h.now⟩
theorem K26.start {M : ShM} {C : List TotM} {sm ct : Int} {j : Nat} (h : K26 M C sm ct j) (he : shStartE M = 0) : K26 (shStartM M) C 0 0 (j + 1) := by
  have hm : shStartM M = { M with op := true, now := tot0, next := M.next + 1 } := by unfold shStartM; rw [if_pos he]
  rw [hm]
  have ho : M.op = false := by
    unfold shStartE at he
    split at he
    · cases he
    · next h1 => simpa using h1
  have hn := h.next
  rw [ho] at hn
  refine ⟨h.keep, ?_, h.L, by have := h.len; omega, by omega, by omega, fun _ => ⟨rfl, rfl⟩⟩
  dsimp only
  rw [if_pos rfl, hn, if_neg (by decide)]
  omega
theorem startM_no {M : ShM} (he : ¬ shStartE M = 0) : shStartM M = M := by unfold shStartM; rw [if_neg he]
theorem endM_no {M : ShM} (he : ¬ shEndE M = 0) : shEndM M = M := by
  unfold shEndE at he
  unfold shEndM
  split
  · next h => rw [if_pos h] at he; exact absurd rfl he
  · rfl
theorem addM_no {M : ShM} {k am : Int} (he : ¬ shAddE M k am = 0) : shAddM M k am = M := by unfold shAddM; rw [if_neg he]
theorem K26.ended {M : ShM} {C : List TotM} {sm ct : Int} {j : Nat} (h : K26 M C sm ct j) (he : shEndE M = 0) : K26 (shEndM M) (C ++ [M.now]) sm ct (j + 1) ∧ shEndN M = (C.length : Int) + 1 ∧ shEndT M = M.now ∧ sm = M.now.s + M.now.v + M.now.r + M.now.i + M.now.o ∧ ct = M.now.c := by
  have ho : M.op = true := by
    unfold shEndE at he
    split at he
    · assumption
    · cases he
  have hm : shEndM M = { M with op := false, now := tot0, L := (M.L ++ [M.now]).drop (M.L.length + 1 - M.keep.toNat) } := by unfold shEndM; rw [if_pos ho]
  have hn := h.next
  rw [if_pos ho] at hn
  refine ⟨?_, ?_, ?_, h.now ho⟩
  · rw [hm]
    have hk : M.keep.toNat = 6 := by rw [h.keep]; rfl
    refine ⟨h.keep, ?_, ?_, by rw [List.length_append, List.length_singleton]; have := h.len; omega, by have := h.smb; omega, by have := h.ctb; omega, fun hh => by cases hh⟩
    · dsimp only
      rw [if_neg (by decide), List.length_append, List.length_singleton, hn]
      omega
    · dsimp only
      rw [hk, h.L, List.length_append, List.length_singleton, List.length_drop]
      by_cases h6 : C.length ≤ 5
      · rw [show C.length - 6 = 0 by omega, show C.length - 0 + 1 - 6 = 0 by omega, show C.length + 1 - 6 = 0 by omega]
        simp only [List.drop_zero]
      · rw [show C.length - (C.length - 6) + 1 - 6 = 1 by omega, List.drop_append_of_le_length (by rw [List.length_drop]; omega), List.drop_drop, List.drop_append_of_le_length (by omega), show C.length - 6 + 1 = C.length + 1 - 6 by omega]
  · unfold shEndN
    rw [if_pos ho, hn]
    omega
  · unfold shEndT
    rw [if_pos ho]
theorem K26.added {M : ShM} {C : List TotM} {sm ct k am : Int} {j : Nat} (h : K26 M C sm ct j) (he : shAddE M k am = 0) (hk : 1 ≤ k ∧ k ≤ 5) (ham : 0 ≤ am ∧ am < 1099511627776) : K26 (shAddM M k am) C (sm + am) (ct + 1) (j + 1) := by
  obtain ⟨p1, p2, p3, p4, p5⟩ := shAdd_parts he
  obtain ⟨h1, h2⟩ := h.now p3
  have hm : shAddM M k am = { M with now := shAddT M.now k am } := by unfold shAddM; rw [if_pos he]
  rw [hm]
  refine ⟨h.keep, h.next, h.L, by have := h.len; omega, by have := h.smb; omega, by have := h.ctb; omega, fun _ => ?_⟩
  have hkk : k = 1 ∨ k = 2 ∨ k = 3 ∨ k = 4 ∨ k = 5 := by omega
  unfold shAddT
  dsimp only
  rcases hkk with rfl | rfl | rfl | rfl | rfl
  · rw [if_pos rfl]; dsimp only; omega
  · rw [if_neg (by decide), if_pos rfl]; dsimp only; omega
  · rw [if_neg (by decide), if_neg (by decide), if_pos rfl]; dsimp only; omega
  · rw [if_neg (by decide), if_neg (by decide), if_neg (by decide), if_pos rfl]; dsimp only; omega
  · rw [if_neg (by decide), if_neg (by decide), if_neg (by decide), if_neg (by decide), if_pos rfl]; dsimp only; omega
/-- what is told of a closed one -/
theorem K26.told {M : ShM} {C : List TotM} {sm ct : Int} {j : Nat} (h : K26 M C sm ct j) {x : Int} (hx : 1 ≤ x ∧ x ≤ (C.length : Int)) : shTot M x = some (C.getD (x - 1).toNat tot0) ∨ (shTot M x = none ∧ 6 ≤ (C.length : Int) - x) := by
  have hlast : shLast M = (C.length : Int) + 1 := by
    have hn := h.next
    unfold shLast
    split
    · next ho => rw [if_pos ho] at hn; omega
    · next ho => rw [if_neg ho] at hn; omega
  have hnn : ¬ (M.op = true ∧ x = M.next - 1) := fun ⟨ho, he⟩ => by
    have hn := h.next
    rw [if_pos ho] at hn
    omega
  have hl : (M.L.length : Int) = (C.length : Int) - ((C.length - 6 : Nat) : Int) := by rw [h.L, List.length_drop]; omega
  unfold shTot
  rw [if_neg hnn, hlast]
  by_cases ho : (C.length : Int) + 1 ≤ x ∨ x < (C.length : Int) + 1 - (M.L.length : Int)
  · rw [if_pos ho]
    exact .inr ⟨rfl, by omega⟩
  · rw [if_neg ho]
    refine .inl ?_
    have hi : ((M.L.length : Int) - ((C.length : Int) + 1 - x)).toNat = (x - 1).toNat - (C.length - 6) := by omega
    rw [hi, h.L]
    simp only [List.getD, List.getElem?_drop]
    rw [show C.length - 6 + ((x - 1).toNat - (C.length - 6)) = (x - 1).toNat by omega]
def clM (C : List TotM) (x : Int) : Option Value := if 1 ≤ x ∧ x ≤ (C.length : Int) then some (totV (C.getD (x - 1).toNat tot0)) else none
theorem clM_next (C : List TotM) (t : TotM) (x : Int) : clM (C ++ [t]) x = if x = (C.length : Int) + 1 then some (totV t) else clM C x := by
  unfold clM
  rw [List.length_append, List.length_singleton]
  by_cases h : x = (C.length : Int) + 1
  · subst h
    rw [if_pos rfl, if_pos (by omega), show ((C.length : Int) + 1 - 1).toNat = C.length by omega]
    simp [List.getD]
  · rw [if_neg h]
    by_cases h2 : 1 ≤ x ∧ x ≤ (C.length : Int)
    · rw [if_pos h2, if_pos (by omega)]
      have : (x - 1).toNat < C.length := by omega
      simp only [List.getD]
      rw [List.getElem?_append_left this]
    · rw [if_neg h2, if_neg (by omega)]
theorem clM_new (C : List TotM) : clM C ((C.length : Int) + 1) = none := by unfold clM; rw [if_neg (by omega)]
end Go.Proofs.Ytfdgfeohmkdnoaa
