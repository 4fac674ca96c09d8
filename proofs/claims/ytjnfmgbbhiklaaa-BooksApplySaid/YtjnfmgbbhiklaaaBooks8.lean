/-
  Layer 23: even postings, and what stays small: plain.
-/
import Derived.Test.YtjnfmgbbhiklaaaBooks7
import Derived.Test.YtjnfmgbbhiklaaaPostC
namespace Go.Proofs.Ytjnfmgbbhiklaaa
set_option linter.unusedSimpArgs false
set_option linter.unusedVariables false
open Go.RowKit Go.WideShapes Go.ChangeShapes Go.ChangeAt Go.Deep
def evL (y : LnM) : LnM := ⟨max 0 y.c % 9, y.n.tmod 1099511627776⟩
def numS (L : List LnM) : Int := (L.map (·.n)).sum
theorem numS_snoc (L : List LnM) (x : LnM) : numS (L ++ [x]) = numS L + x.n := by unfold numS; rw [List.map_append, List.sum_append]; simp
def evP (l : List LnM) : List LnM := l.map evL ++ [⟨9, -(numS (l.map evL))⟩]
theorem evP_len (l : List LnM) : (evP l).length = l.length + 1 := by unfold evP; simp
theorem evL_in (y : LnM) : (0 ≤ (evL y).c ∧ (evL y).c ≤ 8) ∧ -1099511627775 ≤ (evL y).n ∧ (evL y).n ≤ 1099511627775 := by
  unfold evL
  dsimp only
  refine ⟨by omega, ?_⟩
  have h1 := Int.tmod_lt_of_pos y.n (show (0 : Int) < 1099511627776 by omega)
  have h2 : -1099511627776 < y.n.tmod 1099511627776 := Int.lt_tmod_of_pos y.n (by omega)
  omega
theorem numS_in (l : List LnM) : -(1099511627775 * (l.length : Int)) ≤ numS (l.map evL) ∧ numS (l.map evL) ≤ 1099511627775 * (l.length : Int) := by
  induction l with
  | nil => simp [numS]
  | cons x l ih =>
    have e : numS ((x :: l).map evL) = (evL x).n + numS (l.map evL) := by simp [numS]
    have h := (evL_in x).2
    rw [e, List.length_cons]
    omega
theorem sumA_in (l : List LnM) (a : Int) : -(1099511627775 * (l.length : Int)) ≤ sumA (l.map evL) a ∧ sumA (l.map evL) a ≤ 1099511627775 * (l.length : Int) := by
  induction l with
  | nil => simp [sumA_nil]
  | cons x l ih =>
    have h := (evL_in x).2
    rw [List.map_cons, sumA_cons, List.length_cons]
    split <;> omega
theorem sumA_app (A B : List LnM) (a : Int) : sumA (A ++ B) a = sumA A a + sumA B a := by
  unfold sumA
  rw [List.filter_append, List.map_append, List.sum_append]
theorem evP_sum (l : List LnM) (hl : l.length ≤ 7) (a : Int) : -17592186044416 ≤ sumA (evP l) a ∧ sumA (evP l) a ≤ 17592186044416 := by
  unfold evP
  rw [sumA_app, sumA_cons, sumA_nil]
  have h1 := sumA_in l a
  have h2 := numS_in l
  dsimp only
  split <;> omega
theorem evP_all (l : List LnM) : ((evP l).map (·.n)).sum = 0 := by
  unfold evP
  have := numS_snoc (l.map evL) ⟨9, -(numS (l.map evL))⟩
  unfold numS at *
  rw [this]
  dsimp only
  omega
theorem evP_in (l : List LnM) (hl : l.length ≤ 7) : ∀ x ∈ evP l, (0 ≤ x.c ∧ x.c ≤ 9) ∧ -17592186044416 ≤ x.n ∧ x.n ≤ 17592186044416 := fun x hx => by
  unfold evP at hx
  rcases List.mem_append.1 hx with h | h
  · obtain ⟨y, hy, rfl⟩ := List.mem_map.1 h
    have := evL_in y
    omega
  · rw [List.mem_singleton.1 h]
    have h2 := numS_in l
    dsimp only
    omega
/-- books that are small, and even -/
structure SmallB (i : Nat) (M : List LnM) : Prop where
  rise : RiseB M
  nz : NzB M
  len : M.length ≤ 8 * i
  small : ∀ a, -(17592186044416 * (i : Int)) ≤ getB M a ∧ getB M a ≤ 17592186044416 * (i : Int)
  even : allBk M = 0
theorem setB_len {M : List LnM} (h : RiseB M) (a n : Int) : (setB M a n).length ≤ M.length + 1 := by
  rw [setB_length h]
  split
  · omega
  · split <;> omega
theorem setAll_len {t : Int → Int} : ∀ (A : List Int) {M : List LnM}, RiseB M → (setAll t M A).length ≤ M.length + A.length
  | [], M, _ => by simp [setAll]
  | a :: A, M, h => by
    have h1 := setAll_len (t := t) A (setB_rise h a (t a))
    have h2 := setB_len h a (t a)
    show (setAll t (setB M a (t a)) A).length ≤ _
    rw [List.length_cons]
    omega
theorem SmallB.apply {i : Nat} {M : List LnM} (h : SmallB i M) (hi : i < 20) (l : List LnM) (hl : l.length ≤ 7) : appE M (evP l) = 0 ∧ SmallB (i + 1) (nextB M (evP l)) := by
  have h0 : appE M (evP l) = 0 := appE_of (fun x hx => by have := evP_in l hl x hx; unfold accB; exact decide_eq_true (by omega)) (fun x hx => by
    have h1 := h.small x.c
    have h2 := evP_sum l hl x.c
    unfold inR totB
    omega)
  refine ⟨h0, nextB_rise h.rise _, nextB_nz h.nz _, ?_, fun a => ?_, ?_⟩
  · unfold nextB
    rw [if_pos h0]
    have h1 := setAll_len (t := totB M (evP l)) ((evP l).map (·.c)) h.rise
    rw [List.length_map, evP_len] at h1
    have := h.len
    omega
  · rw [getB_next h.rise h0, totB]
    have h1 := h.small a
    have h2 := evP_sum l hl a
    omega
  · rw [allB_next h.rise h.nz h0, h.even, evP_all]; rfl
theorem SmallB.back {i : Nat} {M : List LnM} (h : SmallB i M) (hi : i < 20) (l : List LnM) (hl : l.length ≤ 7) : appE (nextB M (evP l)) (negL (evP l)) = 0 ∧ nextB (nextB M (evP l)) (negL (evP l)) = M := by
  obtain ⟨h0, h1⟩ := h.apply hi l hl
  have hg := fun a => getB_next h.rise h0 a
  have h2 : appE (nextB M (evP l)) (negL (evP l)) = 0 := appE_of (fun x hx => by
    unfold negL at hx
    obtain ⟨y, hy, rfl⟩ := List.mem_map.1 hx
    have := evP_in l hl y hy
    unfold accB
    exact decide_eq_true (by dsimp only; omega)) (fun x hx => by
    have h3 := h.small x.c
    unfold inR
    rw [totB, hg, totB, sumA_neg]
    omega)
  exact ⟨h2, next_back h.rise h.nz h0 h2⟩
theorem sum_small (b : Int) (hb : 0 ≤ b) : ∀ (L : List Int), (∀ x ∈ L, -b ≤ x ∧ x ≤ b) → -(b * (L.length : Int)) ≤ L.sum ∧ L.sum ≤ b * (L.length : Int)
  | [], _ => by simp
  | x :: L, h => by
    have ih := sum_small b hb L fun y hy => h y (by simp [hy])
    have hx := h x (by simp)
    rw [List.sum_cons, List.length_cons, Int.natCast_succ, Int.mul_add, Int.mul_one]
    omega
theorem SmallB.trial {i : Nat} {M : List LnM} (h : SmallB i M) (hi : i ≤ 20) : triE M = 0 ∧ triD M = triC M := by
  have hm : ∀ x ∈ M, -351843720888320 ≤ x.n ∧ x.n ≤ 351843720888320 := fun x hx => by
    have := h.small x.c
    rw [getB_in h.rise hx] at this
    omega
  have hl := h.len
  have hA := sum_small 351843720888320 (by omega) (aboveB M) (fun y hy => by
    unfold aboveB at hy
    obtain ⟨x, hx, rfl⟩ := List.mem_map.1 hy
    exact hm x (List.mem_filter.1 hx).1)
  have hB := sum_small 351843720888320 (by omega) (belowB M) (fun y hy => by
    unfold belowB at hy
    obtain ⟨x, hx, rfl⟩ := List.mem_map.1 hy
    exact hm x (List.mem_filter.1 hx).1)
  have lA := above_len M
  have lB := below_len M
  have hs := trial_all M
  rw [h.even] at hs
  have rA : inR (aboveB M).sum := by unfold inR; omega
  have rB : inR (belowB M).sum := by unfold inR; omega
  have rC : inR (0 - (belowB M).sum) := by unfold inR; omega
  have hE : triE M = 0 := by unfold triE trnE; rw [if_neg (fun h => h rA), if_pos rB]; exact (sum_in rC).2
  refine ⟨hE, ?_⟩
  unfold triD triC
  rw [if_pos hE, if_pos hE]
  unfold trnV
  rw [if_pos rB, (sum_in rC).1]
  omega
theorem SmallB.none : SmallB 0 [] := ⟨List.Pairwise.nil, (fun x hx => by cases hx), Nat.le_refl _, fun a => by simp [getB], rfl⟩
theorem evP_ok (l : List LnM) (hl : l.length ≤ 7) : ∀ x ∈ evP l, LnOk x := fun x hx => by
  have := evP_in l hl x hx
  exact ⟨by unfold inR; omega, by unfold inR; omega⟩
theorem evP_least (l : List LnM) (hl : l.length ≤ 7) : leastIn (evP l) = false := by
  unfold leastIn
  rw [List.any_eq_false]
  intro x hx
  have := evP_in l hl x hx
  simp only [decide_eq_true_eq]
  omega
theorem negP_ok (l : List LnM) (hl : l.length ≤ 7) : ∀ x ∈ negL (evP l), LnOk x := fun x hx => by
  unfold negL at hx
  obtain ⟨y, hy, rfl⟩ := List.mem_map.1 hx
  have := evP_in l hl y hy
  exact ⟨by unfold inR; dsimp only; omega, by unfold inR; dsimp only; omega⟩
end Go.Proofs.Ytjnfmgbbhiklaaa
