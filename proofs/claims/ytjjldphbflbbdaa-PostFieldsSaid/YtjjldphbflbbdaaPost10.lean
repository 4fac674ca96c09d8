/-
  Layer 22: what holds of lines that are even (no walk here).
-/
import Derived.Test.YtjjldphbflbbdaaPost9
namespace Go.Proofs.Ytjjldphbflbbdaa
set_option linter.unusedSimpArgs false
set_option linter.unusedVariables false
open Go.RowKit

theorem evM_ok (L : List LnM) : ∀ x ∈ evM L, 1 ≤ x.c ∧ x.c ≤ 5 ∧ -1000000 ≤ x.n ∧ x.n ≤ 1000000 ∧ x.n ≠ 0 := fun x hx => by
  obtain ⟨y, rfl⟩ := evM_mem L x hx
  exact evX_bd y
theorem evM_sum (L : List LnM) : -7000000 ≤ sumL (evM L) ∧ sumL (evM L) ≤ 7000000 := sumL_bd _ (fun x hx => by have := evM_ok L x hx; omega) (by rw [evM_len]; omega)
theorem evenL_ok (L : List LnM) : ∀ x ∈ evenL L, 1 ≤ x.c ∧ x.c ≤ 5 ∧ -7000000 ≤ x.n ∧ x.n ≤ 7000000 := fun x hx => by
  have hs := evM_sum L
  unfold evenL at hx
  split at hx
  · rcases List.mem_append.1 hx with h | h
    · have := evM_ok L x h; omega
    · simp at h; subst h; dsimp only; omega
  · have := evM_ok L x hx; omega
theorem evenL_len (L : List LnM) : (evenL L).length ≤ 8 := by
  unfold evenL
  have := evM_len L
  split
  · rw [List.length_append]; simp; omega
  · omega
theorem evenL_nil : evenL [] = [⟨5, 0⟩] := by decide
theorem evenL_two (L : List LnM) (h : L ≠ []) : 2 ≤ (evenL L).length ∧ sumL (evenL L) = 0 ∧ zeroIn (evenL L) = false := by
  have hl := evM_len L
  have h1 : 1 ≤ L.length := by
    rcases L with _ | ⟨x, L⟩
    · exact absurd rfl h
    · simp
  have hz : ∀ x ∈ evM L, x.n ≠ 0 := fun x hx => (evM_ok L x hx).2.2.2.2
  have hs1 : (evM L).length = 1 → sumL (evM L) ≠ 0 := fun e => by
    match hM : evM L, e with
    | [x], _ =>
      have := hz x (by rw [hM]; simp)
      simpa [sumL] using this
  unfold evenL
  generalize evM L = M at *
  by_cases hc : sumL M ≠ 0 ∨ M.length < 2
  · rw [if_pos hc]
    have hsn : sumL M ≠ 0 := by
      rcases hc with hc | hc
      · exact hc
      · exact hs1 (by omega)
    refine ⟨by rw [List.length_append]; simp; omega, by rw [sumL_snoc]; dsimp only; omega, ?_⟩
    unfold zeroIn
    rw [List.any_eq_false]
    intro x hx
    rcases List.mem_append.1 hx with h | h
    · simpa using hz x h
    · simp at h; subst h; simp only [decide_eq_true_eq]; omega
  · rw [if_neg hc]
    refine ⟨by omega, by omega, ?_⟩
    unfold zeroIn
    rw [List.any_eq_false]
    intro x hx
    simpa using hz x hx
theorem sumL_neg (L : List LnM) : sumL (negL L) = -sumL L := by
  induction L with
  | nil => rfl
  | cons x L ih =>
    have e1 : sumL (negL (x :: L)) = -x.n + sumL (negL L) := by simp [sumL, negL, negX]
    have e2 : sumL (x :: L) = x.n + sumL L := by simp [sumL]
    rw [e1, e2, ih]; omega
theorem onL_neg (k : Int) (L : List LnM) : (onL k (negL L)).sum = -(onL k L).sum := by
  induction L with
  | nil => rfl
  | cons x L ih =>
    have e0 : negL (x :: L) = negX x :: negL L := rfl
    rw [e0]
    by_cases h : x.c = k
    · have e1 : onL k (negX x :: negL L) = -x.n :: onL k (negL L) := by simp [onL, wantN, negX, h]
      have e2 : onL k (x :: L) = x.n :: onL k L := by simp [onL, wantN, h]
      rw [e1, e2, List.sum_cons, List.sum_cons, ih]; omega
    · have e1 : onL k (negX x :: negL L) = onL k (negL L) := by simp [onL, wantN, negX, h]
      have e2 : onL k (x :: L) = onL k L := by simp [onL, wantN, h]
      rw [e1, e2, ih]
theorem negL_negL (L : List LnM) : negL (negL L) = L := by
  unfold negL
  rw [List.map_map]
  conv => rhs; rw [← List.map_id L]
  apply List.map_congr_left
  intro x _
  obtain ⟨c, n⟩ := x
  simp [negX]
theorem zeroIn_neg (L : List LnM) : zeroIn (negL L) = zeroIn L := by
  unfold zeroIn negL
  rw [List.any_map]
  congr 1
  funext x
  show decide (-x.n = 0) = decide (x.n = 0)
  exact decide_eq_decide.2 (by omega)
theorem knownL_neg (m : Nat) (L : List LnM) : knownL m (negL L) = knownL m L := by
  unfold knownL negL
  rw [List.all_map]
  rfl
theorem knownL_ev (L : List LnM) : knownL 5 (evenL L) = true := by
  unfold knownL
  rw [List.all_eq_true]
  intro x hx
  have := evenL_ok L x hx
  simp only [decide_eq_true_eq]
  omega
theorem chk_even (L : List LnM) (h : L ≠ []) : chkE 5 (evenL L) = 0 ∧ chkE 5 (negL (evenL L)) = 0 := by
  obtain ⟨h1, h2, h3⟩ := evenL_two L h
  have h4 := evenL_len L
  unfold chkE
  rw [negL_len, zeroIn_neg, knownL_neg, sumL_neg, h2, h3, knownL_ev]
  have hc : ¬ ((evenL L).length < 2 ∨ 8 < (evenL L).length ∨ false = true) := by simp; omega
  exact ⟨by rw [if_neg hc]; rfl, by rw [if_neg hc]; rfl⟩
theorem small_least (L : List LnM) (h : ∀ x ∈ L, -7000000 ≤ x.n ∧ x.n ≤ 7000000) : leastIn L = false := by
  unfold leastIn
  rw [List.any_eq_false]
  intro x hx
  have := h x hx
  simp only [decide_eq_true_eq]
  omega
theorem negL_small (L : List LnM) (h : ∀ x ∈ L, -7000000 ≤ x.n ∧ x.n ≤ 7000000) : ∀ x ∈ negL L, -7000000 ≤ x.n ∧ x.n ≤ 7000000 := fun x hx => by
  unfold negL at hx
  obtain ⟨y, hy, rfl⟩ := List.mem_map.1 hx
  have := h y hy
  unfold negX
  dsimp only
  omega
theorem onL_bd (k : Int) (L : List LnM) (h : ∀ x ∈ L, -7000000 ≤ x.n ∧ x.n ≤ 7000000) (hl : L.length ≤ 8) : -56000000 ≤ (onL k L).sum ∧ (onL k L).sum ≤ 56000000 := by
  have h1 := lnsum_bd 7000000 (by decide) (onL k L) (fun y hy => by
    unfold onL wantN at hy
    obtain ⟨x, hx, rfl⟩ := List.mem_map.1 hy
    exact h x (List.mem_filter.1 hx).1)
  have h2 := wantN_len (fun x => decide (x.c = k)) L
  have h3 : (onL k L).length ≤ 8 := Nat.le_trans h2 hl
  omega
def accS (L : List LnM) (j : Nat) : Int := ((List.range j).map fun (i : Nat) => (onL (1 + (i : Int)) L).sum).sum
theorem accS_next (L : List LnM) (j : Nat) : accS L (j + 1) = accS L j + (onL (1 + (j : Int)) L).sum := by simp [accS, List.range_succ]
theorem accS_bd (L : List LnM) (h : ∀ x ∈ L, -7000000 ≤ x.n ∧ x.n ≤ 7000000) (hl : L.length ≤ 8) : ∀ j : Nat, j ≤ 5 → -((j : Int) * 56000000) ≤ accS L j ∧ accS L j ≤ (j : Int) * 56000000
  | 0, _ => by simp [accS]
  | j + 1, hj => by
    have h1 := accS_bd L h hl j (by omega)
    have h2 := onL_bd (1 + (j : Int)) L h hl
    rw [accS_next]
    omega
theorem onL_cons (k : Int) (x : LnM) (L : List LnM) : (onL k (x :: L)).sum = (if x.c = k then x.n else 0) + (onL k L).sum := by
  by_cases h : x.c = k
  · have e2 : onL k (x :: L) = x.n :: onL k L := by simp [onL, wantN, h]
    rw [e2, List.sum_cons, if_pos h]
  · have e2 : onL k (x :: L) = onL k L := by simp [onL, wantN, h]
    rw [e2, if_neg h, Int.zero_add]
theorem accS_all (L : List LnM) (h : ∀ x ∈ L, 1 ≤ x.c ∧ x.c ≤ 5) : accS L 5 = sumL L := by
  rw [accS_next, accS_next, accS_next, accS_next, accS_next]
  show 0 + _ + _ + _ + _ + _ = _
  induction L with
  | nil => rfl
  | cons x L ih =>
    have h1 := ih (fun y hy => h y (List.mem_cons_of_mem _ hy))
    have h2 := h x (List.mem_cons_self ..)
    have e2 : sumL (x :: L) = x.n + sumL L := by simp [sumL]
    rw [onL_cons, onL_cons, onL_cons, onL_cons, onL_cons, e2]
    by_cases h3 : x.c = 1
    · rw [h3]; simp at h1 ⊢; omega
    by_cases h4 : x.c = 2
    · rw [h4]; simp at h1 ⊢; omega
    by_cases h5 : x.c = 3
    · rw [h5]; simp at h1 ⊢; omega
    by_cases h6 : x.c = 4
    · rw [h6]; simp at h1 ⊢; omega
    · rw [show x.c = 5 by omega]; simp at h1 ⊢; omega
theorem ev_lnok (L : List LnM) (h : ∀ x ∈ L, 1 ≤ x.c ∧ x.c ≤ 5 ∧ -7000000 ≤ x.n ∧ x.n ≤ 7000000) : ∀ x ∈ L, LnOk x := fun x hx => by
  have := h x hx
  unfold LnOk inR
  omega
end Go.Proofs.Ytjjldphbflbbdaa
