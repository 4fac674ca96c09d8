/-
  Layer 5, the document's New: the first page of a block, however many are bad from the factory.
-/
import Derived.Test.YthippbckjldijaaRNand9
namespace Go.Proofs.Ythippbckjldijaa
set_option linter.unusedSimpArgs false
set_option linter.unusedVariables false
open Go.RowKit Go.WideShapes Go.ChangeShapes Go.ChangeAt Go.Deep

def FirstIs (S : ChipM) (x : ByteArray) : Prop := ∀ k, k < S.L.length → 0 < (S.blk k).pages.length ∧ ((S.blk k).pages.getD 0 pg0).1 = x
theorem FirstIs.one {S : ChipM} {x : ByteArray} (h : FirstIs S x) (i : Int) : FirstIs (badOne S i) x := by
  unfold badOne
  split
  · intro k hk
    unfold millS at hk ⊢
    rw [put_length] at hk
    by_cases e : k = i.toNat
    · subst e
      rw [blk_put_self S _ _ hk]
      obtain ⟨h1, h2⟩ := h _ hk
      unfold millB
      dsimp only
      refine ⟨by rw [List.length_set]; exact h1, ?_⟩
      rw [getD_set_self _ _ _ _ h1]
      exact h2
    · rw [blk_put_other S _ k _ e]
      exact h k hk
  · exact h
theorem FirstIs.all {x : ByteArray} (L : List Int) : ∀ {S : ChipM}, FirstIs S x → FirstIs (badS S L) x := by
  induction L with
  | nil => exact fun h => h
  | cons i L ih => exact fun h => ih (h.one i)
theorem new_first (b p s : Nat) (hp : 1 ≤ p) : FirstIs (newS b p s) (filledP s ffB).1 := fun k hk => by
  rw [newS_len] at hk
  rw [newS_blk b p s k hk]
  dsimp only
  refine ⟨by rw [List.length_replicate]; omega, ?_⟩
  rw [List.getD_eq_getElem?_getD, List.getElem?_replicate, if_pos (by omega)]
  rfl
/-- the text of a bad block's first page -/
theorem bad_text (s : Nat) : (filledP s ffB).1 ++ (zeroB ++ (filledP s ffB).2.extract 1 (filledP s ffB).2.size) = (fillZ (s + 32) 255).extract 0 s ++ ⟨#[0]⟩ ++ (fillZ (s + 32) 255).extract (s + 1) (s + 32) := by
  have hx := (filledP_ok s ffB (by decide)).1
  have hy := (filledP_ok s ffB (by decide)).2
  have h2 : (filledP s ffB).1 ++ (filledP s ffB).2 = fillZ (s + 32) 255 := filled_one s 255
  rw [← h2]
  generalize (filledP s ffB).1 = x at *
  generalize (filledP s ffB).2 = y at *
  rw [ext_left x y s hx, hy]
  have e1 : (x ++ y).extract (s + 1) (s + 32) = y.extract 1 32 := by
    subst hx
    have := ByteArray.extract_append_size_add (a := x) (b := y) (i := 1) (j := 32)
    exact this
  rw [e1, ByteArray.append_assoc]
  rfl
end Go.Proofs.Ythippbckjldijaa
