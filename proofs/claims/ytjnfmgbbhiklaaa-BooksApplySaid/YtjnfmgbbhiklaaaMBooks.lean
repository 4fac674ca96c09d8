/-
  Layer 23: books as a list of balances by rising accounts: plain.
-/
import Derived.Test.YtjnfmgbbhiklaaaPost
namespace Go.Proofs.Ytjnfmgbbhiklaaa
set_option linter.unusedSimpArgs false
set_option linter.unusedVariables false
open Go.RowKit
/-- an account's balance -/
def getB : List LnM → Int → Int
  | [], _ => 0
  | x :: M, a => if x.c = a then x.n else getB M a
/-- a balance is another one -/
def setB : List LnM → Int → Int → List LnM
  | [], a, n => if n = 0 then [] else [⟨a, n⟩]
  | x :: M, a, n => if x.c < a then x :: setB M a n else if x.c = a then (if n = 0 then M else ⟨a, n⟩ :: M) else if n = 0 then x :: M else ⟨a, n⟩ :: x :: M
def RiseB (M : List LnM) : Prop := M.Pairwise fun x y => x.c < y.c
def NzB (M : List LnM) : Prop := ∀ x ∈ M, ¬ x.n = 0
theorem RiseB.tail {x : LnM} {M : List LnM} (h : RiseB (x :: M)) : RiseB M := (List.pairwise_cons.1 h).2
theorem RiseB.head {x : LnM} {M : List LnM} (h : RiseB (x :: M)) : ∀ y ∈ M, x.c < y.c := (List.pairwise_cons.1 h).1
theorem getB_out {M : List LnM} {a : Int} (h : ∀ x ∈ M, ¬ x.c = a) : getB M a = 0 := by
  induction M with
  | nil => rfl
  | cons x M ih =>
    unfold getB
    rw [if_neg (h x (by simp))]
    exact ih fun y hy => h y (by simp [hy])
theorem getB_in {M : List LnM} (h : RiseB M) {x : LnM} (hx : x ∈ M) : getB M x.c = x.n := by
  induction M with
  | nil => cases hx
  | cons y M ih =>
    unfold getB
    rcases List.mem_cons.1 hx with rfl | hx
    · rw [if_pos rfl]
    · rw [if_neg (by have := h.head x hx; omega)]
      exact ih h.tail hx
theorem getB_no {M : List LnM} (hz : NzB M) {a : Int} (h : getB M a = 0) : ∀ x ∈ M, ¬ x.c = a := by
  induction M with
  | nil => intro x hx; cases hx
  | cons y M ih =>
    unfold getB at h
    by_cases e : y.c = a
    · rw [if_pos e] at h
      exact absurd h (hz y (by simp))
    · rw [if_neg e] at h
      intro x hx
      rcases List.mem_cons.1 hx with rfl | hx
      · exact e
      · exact ih (fun z hz' => hz z (by simp [hz'])) h x hx
theorem mem_setB {M : List LnM} {a n : Int} {y : LnM} (h : y ∈ setB M a n) : y ∈ M ∨ (y = ⟨a, n⟩ ∧ ¬ n = 0) := by
  induction M with
  | nil =>
    unfold setB at h
    split at h
    · cases h
    · next hn => exact Or.inr ⟨List.mem_singleton.1 h, hn⟩
  | cons x M ih =>
    unfold setB at h
    split at h
    · rcases List.mem_cons.1 h with rfl | h
      · exact Or.inl (by simp)
      · rcases ih h with h | h
        · exact Or.inl (by simp [h])
        · exact Or.inr h
    · split at h
      · split at h
        · exact Or.inl (by simp [h])
        · next hn =>
          rcases List.mem_cons.1 h with rfl | h
          · exact Or.inr ⟨rfl, hn⟩
          · exact Or.inl (by simp [h])
      · split at h
        · exact Or.inl h
        · next hn =>
          rcases List.mem_cons.1 h with rfl | h
          · exact Or.inr ⟨rfl, hn⟩
          · exact Or.inl h
theorem setB_nz {M : List LnM} (h : NzB M) (a n : Int) : NzB (setB M a n) := fun y hy => by
  rcases mem_setB hy with h1 | ⟨rfl, h1⟩
  · exact h y h1
  · exact h1
theorem setB_rise {M : List LnM} (h : RiseB M) (a n : Int) : RiseB (setB M a n) := by
  induction M with
  | nil =>
    unfold setB
    split
    · exact List.Pairwise.nil
    · exact List.pairwise_singleton _ _
  | cons x M ih =>
    unfold setB
    split
    · next hlt =>
      refine List.pairwise_cons.2 ⟨fun y hy => ?_, ih h.tail⟩
      rcases mem_setB hy with h1 | ⟨rfl, -⟩
      · exact h.head y h1
      · exact hlt
    · next hge =>
      split
      · next he =>
        split
        · exact h.tail
        · refine List.pairwise_cons.2 ⟨fun y hy => ?_, h.tail⟩
          have := h.head y hy
          show a < y.c
          omega
      · next hne =>
        split
        · exact h
        · refine List.pairwise_cons.2 ⟨fun y hy => ?_, h⟩
          show a < y.c
          rcases List.mem_cons.1 hy with rfl | hy
          · omega
          · have := h.head y hy; omega
theorem getB_setB {M : List LnM} (h : RiseB M) (a n b : Int) : getB (setB M a n) b = if b = a then n else getB M b := by
  induction M with
  | nil =>
    unfold setB
    split
    · next hn => subst hn; simp [getB]
    · simp only [getB]
      by_cases e : b = a
      · subst e; simp
      · rw [if_neg e, if_neg (fun h => e h.symm)]
  | cons x M ih =>
    have hout : ∀ c, c ≤ x.c → (∀ y ∈ M, ¬ y.c = c) := fun c hc y hy => by have := h.head y hy; omega
    unfold setB
    split
    · next hlt =>
      simp only [getB]
      rw [ih h.tail]
      by_cases e : x.c = b
      · rw [if_pos e, if_pos e, if_neg (by omega)]
      · rw [if_neg e, if_neg e]
    · next hge =>
      split
      · next he =>
        split
        · next hn =>
          subst hn
          simp only [getB]
          by_cases e : b = a
          · rw [if_pos e]
            exact getB_out (hout b (by omega))
          · rw [if_neg e, if_neg (by omega)]
        · simp only [getB]
          by_cases e : b = a
          · rw [if_pos e, if_pos e.symm]
          · rw [if_neg e, if_neg (by omega), if_neg (by omega)]
      · next hne =>
        split
        · next hn =>
          subst hn
          by_cases e : b = a
          · rw [if_pos e]
            simp only [getB]
            rw [if_neg (by omega)]
            exact getB_out (hout b (by omega))
          · rw [if_neg e]
        · simp only [getB]
          by_cases e : b = a
          · rw [if_pos e, if_pos e.symm]
          · rw [if_neg e, if_neg (fun h => e h.symm)]
/-- books with the same balances are the same books -/
theorem books_ext : ∀ {M N : List LnM}, RiseB M → NzB M → RiseB N → NzB N → (∀ a, getB M a = getB N a) → M = N
  | [], [], _, _, _, _, _ => rfl
  | [], y :: N, _, _, hN, hz, h => by
    have := h y.c
    rw [getB_in hN (by simp : y ∈ y :: N)] at this
    exact absurd this.symm (hz y (by simp))
  | x :: M, [], hM, hz, _, _, h => by
    have := h x.c
    rw [getB_in hM (by simp : x ∈ x :: M)] at this
    exact absurd this (hz x (by simp))
  | x :: M, y :: N, hM, zM, hN, zN, h => by
    have zM' : NzB M := fun z hz => zM z (by simp [hz])
    have zN' : NzB N := fun z hz => zN z (by simp [hz])
    have hx := h x.c
    have hy := h y.c
    rw [getB_in hM (by simp : x ∈ x :: M)] at hx
    rw [getB_in hN (by simp : y ∈ y :: N)] at hy
    have hc : x.c = y.c := by
      rcases Int.lt_trichotomy x.c y.c with hl | he | hl
      · have : getB (y :: N) x.c = 0 := getB_out fun z hz => by
          rcases List.mem_cons.1 hz with rfl | hz
          · omega
          · have := hN.head z hz; omega
        rw [this] at hx
        exact absurd hx (zM x (by simp))
      · exact he
      · have : getB (x :: M) y.c = 0 := getB_out fun z hz => by
          rcases List.mem_cons.1 hz with rfl | hz
          · omega
          · have := hM.head z hz; omega
        rw [this] at hy
        exact absurd hy.symm (zN y (by simp))
    have hn : x.n = y.n := by
      rw [hc, getB_in hN (by simp : y ∈ y :: N)] at hx
      exact hx
    have he : x = y := by
      obtain ⟨c, n⟩ := x
      obtain ⟨c', n'⟩ := y
      dsimp only at hc hn
      rw [hc, hn]
    subst he
    rw [books_ext hM.tail zM' hN.tail zN' fun a => by
      have := h a
      simp only [getB] at this
      by_cases e : x.c = a
      · rw [getB_out (M := M) fun z hz => by have := hM.head z hz; omega, getB_out (M := N) fun z hz => by have := hN.head z hz; omega]
      · rwa [if_neg e, if_neg e] at this]
/-- the document's set, entry by entry: what it has, and whether the new balance is in -/
def setK (a n : Int) (z : List LnM × Bool) (x : LnM) : List LnM × Bool :=
  if z.2 = false ∧ a ≤ x.c then ((z.1 ++ [⟨a, n⟩]) ++ (if x.c = a then [] else [x]), true)
  else (z.1 ++ (if x.c = a then [] else [x]), z.2)
def setE (a n : Int) (z : List LnM × Bool) : List LnM := if z.2 = false then z.1 ++ [⟨a, n⟩] else z.1
theorem setK_done {a n : Int} : ∀ (M : List LnM) (P : List LnM), (∀ x ∈ M, ¬ x.c = a) → M.foldl (setK a n) (P, true) = (P ++ M, true)
  | [], P, _ => by simp
  | x :: M, P, h => by
    rw [List.foldl_cons]
    have e : setK a n (P, true) x = (P ++ [x], true) := by
      unfold setK
      rw [if_neg (by simp), if_neg (h x (by simp))]
    rw [e, setK_done M (P ++ [x]) fun y hy => h y (by simp [hy])]
    simp
theorem setK_is {a n : Int} : ∀ (M : List LnM) (P : List LnM), RiseB M → setE a n (M.foldl (setK a n) (P, decide (n = 0))) = P ++ setB M a n
  | [], P, _ => by
    unfold setE setB
    by_cases hn : n = 0
    · simp [hn]
    · simp [hn]
  | x :: M, P, h => by
    rw [List.foldl_cons]
    unfold setB
    by_cases hn : n = 0
    · have e : setK a n (P, decide (n = 0)) x = (P ++ (if x.c = a then [] else [x]), decide (n = 0)) := by
        unfold setK
        rw [if_neg (by simp [hn])]
      rw [e, setK_is M _ h.tail]
      by_cases hlt : x.c < a
      · rw [if_pos hlt, if_neg (by omega)]; simp
      · rw [if_neg hlt]
        have hs : setB M a n = M := by
          cases M with
          | nil => unfold setB; rw [if_pos hn]
          | cons y M =>
            have := h.head y (by simp)
            unfold setB
            rw [if_neg (by omega), if_neg (by omega), if_pos hn]
        rw [hs]
        by_cases he : x.c = a
        · rw [if_pos he, if_pos he, if_pos hn]; simp
        · rw [if_neg he, if_neg he, if_pos hn]; simp
    · have hd : decide (n = 0) = false := decide_eq_false hn
      rw [hd]
      by_cases hlt : x.c < a
      · have e : setK a n (P, false) x = (P ++ [x], false) := by
          unfold setK
          rw [if_neg (fun h => by have := h.2; omega), if_neg (by omega)]
        rw [e, if_pos hlt]
        have ih := setK_is (a := a) (n := n) M (P ++ [x]) h.tail
        rw [hd] at ih
        rw [ih]; simp
      · rw [if_neg hlt, if_neg hn, if_neg hn]
        have e : setK a n (P, false) x = ((P ++ [⟨a, n⟩]) ++ (if x.c = a then [] else [x]), true) := by
          unfold setK
          rw [if_pos ⟨rfl, by omega⟩]
        rw [e, setK_done M _ fun y hy => by have := h.head y hy; omega]
        unfold setE
        by_cases he : x.c = a
        · rw [if_pos he, if_pos he]; simp
        · rw [if_neg he, if_neg he]; simp
end Go.Proofs.Ytjnfmgbbhiklaaa
