/-
  Layer 23: a posting applied: plain.
-/
import Derived.Test.YtjnfmgbbhiklaaaMBooks
namespace Go.Proofs.Ytjnfmgbbhiklaaa
set_option linter.unusedSimpArgs false
set_option linter.unusedVariables false
open Go.RowKit
/-- what a posting brings an account -/
def sumA (P : List LnM) (a : Int) : Int := ((P.filter fun x => decide (x.c = a)).map (·.n)).sum
theorem sumA_nil (a : Int) : sumA [] a = 0 := rfl
theorem sumA_cons (x : LnM) (P : List LnM) (a : Int) : sumA (x :: P) a = (if x.c = a then x.n else 0) + sumA P a := by
  unfold sumA
  by_cases h : x.c = a
  · rw [if_pos h, List.filter_cons_of_pos (by simpa using h), List.map_cons, List.sum_cons]
  · rw [if_neg h, List.filter_cons_of_neg (by simpa using h), Int.zero_add]
theorem sumA_out {P : List LnM} {a : Int} (h : ∀ x ∈ P, ¬ x.c = a) : sumA P a = 0 := by
  induction P with
  | nil => rfl
  | cons x P ih =>
    rw [sumA_cons, if_neg (h x (by simp)), ih fun y hy => h y (by simp [hy])]
    rfl
def totB (M P : List LnM) (a : Int) : Int := getB M a + sumA P a
/-- the accounts set, one after another, each to what t tells -/
def setAll (t : Int → Int) (M : List LnM) (A : List Int) : List LnM := A.foldl (fun o a => setB o a (t a)) M
theorem setAll_rise {t : Int → Int} : ∀ (A : List Int) {M : List LnM}, RiseB M → RiseB (setAll t M A)
  | [], _, h => h
  | a :: A, M, h => by
    show RiseB (setAll t (setB M a (t a)) A)
    exact setAll_rise A (setB_rise h a (t a))
theorem setAll_nz {t : Int → Int} : ∀ (A : List Int) {M : List LnM}, NzB M → NzB (setAll t M A)
  | [], _, h => h
  | a :: A, M, h => by
    show NzB (setAll t (setB M a (t a)) A)
    exact setAll_nz A (setB_nz h a (t a))
theorem getB_setAll {t : Int → Int} : ∀ (A : List Int) {M : List LnM}, RiseB M → ∀ b, getB (setAll t M A) b = if b ∈ A then t b else getB M b
  | [], _, _, b => by simp [setAll]
  | a :: A, M, h, b => by
    show getB (setAll t (setB M a (t a)) A) b = _
    rw [getB_setAll A (setB_rise h a (t a)) b, getB_setB h]
    by_cases h1 : b ∈ A
    · rw [if_pos h1, if_pos (List.mem_cons_of_mem _ h1)]
    · rw [if_neg h1]
      by_cases h2 : b = a
      · rw [if_pos h2, if_pos (by rw [h2]; exact List.mem_cons_self), h2]
      · rw [if_neg h2, if_neg (fun h => by rcases List.mem_cons.1 h with h | h; exact h2 h; exact h1 h)]
/-- the order doesn't matter, nor how often an account is set -/
theorem setAll_same {t : Int → Int} {M : List LnM} (hr : RiseB M) (hz : NzB M) {A B : List Int} (h : ∀ a, a ∈ A ↔ a ∈ B) : setAll t M A = setAll t M B :=
  books_ext (setAll_rise A hr) (setAll_nz A hz) (setAll_rise B hr) (setAll_nz B hz) fun b => by
    rw [getB_setAll A hr, getB_setAll B hr]
    by_cases hb : b ∈ A
    · rw [if_pos hb, if_pos ((h b).1 hb)]
    · rw [if_neg hb, if_neg (fun h' => hb ((h b).2 h'))]
def fitB (s : Int) : Bool := decide (-9223372036854775808 ≤ s ∧ s ≤ 9223372036854775807)
theorem fitB_is (s : Int) : fitB s = true ↔ inR s := by unfold fitB inR; rw [decide_eq_true_eq]
def accB (x : LnM) : Bool := decide (0 ≤ x.c ∧ x.c ≤ 65535)
def appE (M P : List LnM) : Int := if (P.any fun x => !accB x) = true then 3 else if (P.any fun x => !fitB (totB M P x.c)) = true then 6 else 0
def nextB (M P : List LnM) : List LnM := if appE M P = 0 then setAll (totB M P) M (P.map (·.c)) else M
theorem nextB_rise {M : List LnM} (h : RiseB M) (P : List LnM) : RiseB (nextB M P) := by
  unfold nextB
  split
  · exact setAll_rise _ h
  · exact h
theorem nextB_nz {M : List LnM} (h : NzB M) (P : List LnM) : NzB (nextB M P) := by
  unfold nextB
  split
  · exact setAll_nz _ h
  · exact h
theorem getB_next {M P : List LnM} (h : RiseB M) (he : appE M P = 0) (b : Int) : getB (nextB M P) b = totB M P b := by
  unfold nextB
  rw [if_pos he, getB_setAll _ h]
  by_cases hb : b ∈ P.map (·.c)
  · rw [if_pos hb]
  · rw [if_neg hb]
    unfold totB
    rw [sumA_out (fun x hx e => hb (List.mem_map.2 ⟨x, hx, e⟩)), Int.add_zero]
theorem appE_ok {M P : List LnM} (h : appE M P = 0) : (∀ x ∈ P, accB x = true) ∧ ∀ x ∈ P, inR (totB M P x.c) := by
  unfold appE at h
  split at h
  · exact absurd h (by decide)
  · next h1 =>
    split at h
    · exact absurd h (by decide)
    · next h2 =>
      rw [Bool.not_eq_true, List.any_eq_false] at h1 h2
      exact ⟨fun x hx => by simpa using h1 x hx, fun x hx => (fitB_is _).1 (by simpa using h2 x hx)⟩
theorem appE_of {M P : List LnM} (h1 : ∀ x ∈ P, accB x = true) (h2 : ∀ x ∈ P, inR (totB M P x.c)) : appE M P = 0 := by
  unfold appE
  rw [if_neg, if_neg]
  · rw [Bool.not_eq_true, List.any_eq_false]
    exact fun x hx => by simpa using (fitB_is _).2 (h2 x hx)
  · rw [Bool.not_eq_true, List.any_eq_false]
    exact fun x hx => by simpa using h1 x hx
/-- the contra posting -/
def negL (P : List LnM) : List LnM := P.map fun x => ⟨x.c, -x.n⟩
theorem sumA_neg (P : List LnM) (a : Int) : sumA (negL P) a = - sumA P a := by
  induction P with
  | nil => rfl
  | cons x P ih =>
    show sumA (⟨x.c, -x.n⟩ :: negL P) a = _
    rw [sumA_cons, sumA_cons, ih]
    dsimp only
    split <;> omega
/-- a posting and its contra one leave the books as they were -/
theorem next_back {M P : List LnM} (hr : RiseB M) (hz : NzB M) (he : appE M P = 0) (hf : appE (nextB M P) (negL P) = 0) : nextB (nextB M P) (negL P) = M :=
  books_ext (nextB_rise (nextB_rise hr P) _) (nextB_nz (nextB_nz hz P) _) hr hz fun b => by
    rw [getB_next (nextB_rise hr P) hf, totB, getB_next hr he, totB, sumA_neg]
    omega
/-- what all balances are together -/
def allBk (M : List LnM) : Int := (M.map (·.n)).sum
theorem allB_cons (x : LnM) (M : List LnM) : allBk (x :: M) = x.n + allBk M := by unfold allBk; rw [List.map_cons, List.sum_cons]
theorem allB_set {M : List LnM} (h : RiseB M) (a n : Int) : allBk (setB M a n) = allBk M - getB M a + n := by
  induction M with
  | nil =>
    unfold setB
    split
    · next hn => subst hn; rfl
    · show allBk [⟨a, n⟩] = _
      rw [allB_cons]
      simp [allBk, getB]
  | cons x M ih =>
    have hout : x.c ≥ a → ¬ x.c = a → getB M a = 0 := fun h1 h2 => getB_out fun y hy => by have := h.head y hy; omega
    unfold setB getB
    rw [allB_cons]
    split
    · next hlt =>
      rw [allB_cons, ih h.tail, if_neg (by omega)]
      omega
    · next hge =>
      split
      · next he =>
        split
        · omega
        · rw [allB_cons]; dsimp only; omega
      · next hne =>
        rw [hout (by omega) hne]
        split
        · rw [allB_cons]; omega
        · rw [allB_cons, allB_cons]; dsimp only; omega
/-- a line alone -/
def addB (M : List LnM) (x : LnM) : List LnM := setB M x.c (getB M x.c + x.n)
theorem addB_all : ∀ (P : List LnM) {M : List LnM}, RiseB M → NzB M → RiseB (P.foldl addB M) ∧ NzB (P.foldl addB M) ∧ (∀ b, getB (P.foldl addB M) b = getB M b + sumA P b) ∧ allBk (P.foldl addB M) = allBk M + (P.map (·.n)).sum
  | [], M, hr, hz => ⟨hr, hz, fun b => by rw [sumA_nil, Int.add_zero]; rfl, by simp⟩
  | x :: P, M, hr, hz => by
    obtain ⟨h1, h2, h3, h4⟩ := addB_all P (M := addB M x) (setB_rise hr _ _) (setB_nz hz _ _)
    refine ⟨h1, h2, fun b => ?_, ?_⟩
    · show getB (P.foldl addB (addB M x)) b = _
      rw [h3 b, sumA_cons]
      unfold addB
      rw [getB_setB hr]
      by_cases e : b = x.c
      · rw [if_pos e, if_pos e.symm, e]; omega
      · rw [if_neg e, if_neg (fun h => e h.symm)]; omega
    · show allBk (P.foldl addB (addB M x)) = _
      rw [h4, List.map_cons, List.sum_cons]
      unfold addB
      rw [allB_set hr]
      omega
theorem next_add {M P : List LnM} (hr : RiseB M) (hz : NzB M) (he : appE M P = 0) : nextB M P = P.foldl addB M := by
  obtain ⟨h1, h2, h3, -⟩ := addB_all P hr hz
  exact books_ext (nextB_rise hr P) (nextB_nz hz P) h1 h2 fun b => by rw [getB_next hr he, h3 b, totB]
/-- all balances together, behind a posting -/
theorem allB_next {M P : List LnM} (hr : RiseB M) (hz : NzB M) (he : appE M P = 0) : allBk (nextB M P) = allBk M + (P.map (·.n)).sum := by
  rw [next_add hr hz he]
  exact (addB_all P hr hz).2.2.2
/-- the trial: what stands above, and below, nothing -/
def aboveB (M : List LnM) : List Int := (M.filter fun x => decide (0 < x.n)).map (·.n)
def belowB (M : List LnM) : List Int := (M.filter fun x => !decide (0 < x.n)).map (·.n)
theorem trial_all (M : List LnM) : (aboveB M).sum + (belowB M).sum = allBk M := by
  induction M with
  | nil => rfl
  | cons x M ih =>
    rw [allB_cons, ← ih]
    unfold aboveB belowB
    by_cases h : 0 < x.n
    · rw [List.filter_cons_of_pos (by simpa using h), List.filter_cons_of_neg (by simp [h]), List.map_cons, List.sum_cons]
      omega
    · rw [List.filter_cons_of_neg (by simpa using h), List.filter_cons_of_pos (by simp [h]), List.map_cons, List.sum_cons]
      omega
end Go.Proofs.Ytjnfmgbbhiklaaa
