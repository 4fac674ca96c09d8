/-
  Layer 12, the mathematics: where logical pages are.
-/
namespace Go.Proofs.Ytpgogdnjddeagaa
namespace W
/-- where each logical page is -/
abbrev Spots := List (Option (Int × Int))
def owner (S : Spots) (x : Int × Int) : Option Nat := S.findIdx? (· == some x)
def total (S : Spots) : Nat := S.countP Option.isSome
def liveN (S : Spots) (b : Int) : Nat := S.countP (fun o => o.any (·.1 == b))
/-- no two are at one place -/
def Inj (S : Spots) : Prop := ∀ (i j : Nat) (x : Int × Int), S[i]? = some (some x) → S[j]? = some (some x) → i = j
theorem owner_some {S : Spots} {x : Int × Int} {i : Nat} (h : owner S x = some i) : S[i]? = some (some x) := by
  unfold owner at h
  rw [List.findIdx?_eq_some_iff_getElem] at h
  obtain ⟨h1, h2, _⟩ := h
  rw [List.getElem?_eq_getElem h1]
  simpa using h2
theorem owner_none {S : Spots} {x : Int × Int} (h : owner S x = none) (i : Nat) : S[i]? ≠ some (some x) := by
  unfold owner at h
  rw [List.findIdx?_eq_none_iff] at h
  intro he
  obtain ⟨h1, h2⟩ := List.getElem?_eq_some_iff.1 he
  have := h _ (List.getElem_mem h1)
  rw [h2] at this
  simp at this
theorem owner_is {S : Spots} (hi : Inj S) {x : Int × Int} {i : Nat} (h : S[i]? = some (some x)) : owner S x = some i := by
  cases ho : owner S x with
  | none => exact absurd h (owner_none ho i)
  | some j => rw [hi j i x (owner_some ho) h]
theorem owner_isnt {S : Spots} {x : Int × Int} (h : ∀ i : Nat, S[i]? ≠ some (some x)) : owner S x = none := by
  cases ho : owner S x with
  | none => rfl
  | some j => exact absurd (owner_some ho) (h j)
theorem Inj.drop {S : Spots} (h : Inj S) (i : Nat) : Inj (S.set i none) := by
  intro a b x ha hb
  rw [List.getElem?_set] at ha hb
  split at ha
  · split at ha <;> cases ha
  · split at hb
    · split at hb <;> cases hb
    · exact h a b x ha hb
theorem owner_drop {S : Spots} (hi : Inj S) (i : Nat) (y : Int × Int) : owner (S.set i none) y = if S[i]? = some (some y) then none else owner S y := by
  by_cases h : S[i]? = some (some y)
  · rw [if_pos h]
    apply owner_isnt
    intro j hj
    rw [List.getElem?_set] at hj
    split at hj
    · split at hj <;> cases hj
    · rename_i hne
      exact hne (hi i j y h hj)
  · rw [if_neg h]
    cases ho : owner S y with
    | none =>
      apply owner_isnt
      intro j hj
      rw [List.getElem?_set] at hj
      split at hj
      · split at hj <;> cases hj
      · exact owner_none ho j hj
    | some j =>
      have hj := owner_some ho
      apply owner_is (hi.drop i)
      rw [List.getElem?_set, if_neg ?_]
      · exact hj
      · intro e; subst e; exact h hj
theorem Inj.put {S : Spots} (h : Inj S) {i : Nat} {x : Int × Int} (hx : owner S x = none ∨ owner S x = some i) : Inj (S.set i (some x)) := by
  have key : ∀ j, j ≠ i → S[j]? ≠ some (some x) := by
    intro j hj hs
    have := owner_is h hs
    rcases hx with hx | hx
    · rw [this] at hx; cases hx
    · rw [this] at hx; exact hj (by simpa using hx)
  intro a b y ha hb
  rw [List.getElem?_set] at ha hb
  split at ha
  · rename_i e1
    split at hb
    · omega
    · rename_i e2
      split at ha
      · simp only [Option.some.injEq] at ha; subst ha; exact absurd hb (key b (fun e => e2 e.symm))
      · cases ha
  · rename_i e1
    split at hb
    · split at hb
      · simp only [Option.some.injEq] at hb; subst hb; exact absurd ha (key a (fun e => e1 e.symm))
      · cases hb
    · exact h a b y ha hb
theorem owner_put {S : Spots} (h : Inj S) {i : Nat} (hl : i < S.length) {x : Int × Int} (hx : owner S x = none ∨ owner S x = some i) (y : Int × Int) :
    owner (S.set i (some x)) y = if y = x then some i else if S[i]? = some (some y) then none else owner S y := by
  have hj := h.put hx
  by_cases e : y = x
  · subst e
    rw [if_pos rfl]
    exact owner_is hj (by rw [List.getElem?_set, if_pos rfl, if_pos hl])
  · rw [if_neg e]
    have := owner_drop h i y
    rw [← this]
    cases ho : owner (S.set i none) y with
    | none =>
      apply owner_isnt
      intro k hk
      by_cases hik : i = k
      · subst hik
        rw [List.getElem?_set, if_pos rfl, if_pos hl] at hk
        simp only [Option.some.injEq] at hk
        exact e hk.symm
      · rw [List.getElem?_set, if_neg hik] at hk
        exact owner_none ho k (by rw [List.getElem?_set, if_neg hik]; exact hk)
    | some k =>
      have hk := owner_some ho
      apply owner_is hj
      have hik : i ≠ k := by
        intro e2; subst e2
        rw [List.getElem?_set, if_pos rfl] at hk
        split at hk <;> cases hk
      rw [List.getElem?_set, if_neg hik] at hk
      rw [List.getElem?_set, if_neg hik]
      exact hk
theorem countP_set {p : Option (Int × Int) → Bool} {S : Spots} {i : Nat} (hl : i < S.length) (v : Option (Int × Int)) : (S.set i v).countP p + (if p (S.getD i none) then 1 else 0) = S.countP p + (if p v then 1 else 0) := by
  induction S generalizing i with
  | nil => simp at hl
  | cons a S ih =>
    cases i with
    | zero => simp [List.countP_cons]; omega
    | succ i =>
      have := ih (i := i) (by simpa using hl)
      simp only [List.set_cons_succ, List.countP_cons, List.getD_cons_succ]
      omega
theorem total_le (S : Spots) : total S ≤ S.length := List.countP_le_length
theorem live_le (S : Spots) (b : Int) : liveN S b ≤ total S := List.countP_mono_left (fun o _ h => by cases o <;> simp_all)
end W
end Go.Proofs.Ytpgogdnjddeagaa
