/-
  Layer 24: entries, and where a key's entry is.
-/
import Derived.Test.YtmomjefbifoliaaKitN
namespace Go.Proofs.Ytmomjefbifoliaa
set_option linter.unusedSimpArgs false
set_option linter.unusedVariables false
open Go.RowKit

/-- an entry: its key, its body, its number -/
structure Ent where
  k : Int
  b : ByteArray
  n : Int
def ent0 : Ent := ⟨0, ⟨#[]⟩, 0⟩
def entC (x : Ent) : List Value := [.int .u64 x.k, .string x.b, .int .i64 x.n]
theorem entC_length (x : Ent) : (entC x).length = 3 := rfl
theorem entsC_length (L : List Ent) : (L.flatMap entC).length = L.length * 3 := flat_length entC 3 entC_length L
theorem entC_one (x : Ent) : ∀ u ∈ entC x, u.oneCell' = true := by
  intro u hu
  simp only [entC, List.mem_cons, List.not_mem_nil, or_false] at hu
  rcases hu with rfl | rfl | rfl <;> rfl
theorem entsC_one (L : List Ent) : ∀ u ∈ L.flatMap entC, u.oneCell' = true := by
  intro u hu
  obtain ⟨x, _, hx⟩ := List.mem_flatMap.1 hu
  exact entC_one x u hx
/-- where a key is; -1: nowhere -/
def keyI : List Ent → Int → Int
  | [], _ => -1
  | x :: L, key => if x.k = key then 0 else if keyI L key < 0 then -1 else keyI L key + 1
theorem keyI_found : ∀ (L : List Ent) (key : Int) (k : Nat), k < L.length → (L.getD k ent0).k = key → (∀ j, j < k → (L.getD j ent0).k ≠ key) → keyI L key = k
  | [], _, k, h, _, _ => by simp at h
  | x :: L, key, 0, _, h2, _ => by
    have h2 : x.k = key := h2
    simp [keyI, h2]
  | x :: L, key, k + 1, h1, h2, h3 => by
    have hx : ¬ x.k = key := h3 0 (by omega)
    have ih := keyI_found L key k (by simpa using h1) (by simpa using h2) (fun j hj => by simpa using h3 (j + 1) (by omega))
    rw [keyI, if_neg hx, ih, if_neg (by omega)]
    omega
theorem keyI_none : ∀ (L : List Ent) (key : Int), (∀ j, j < L.length → (L.getD j ent0).k ≠ key) → keyI L key = -1
  | [], _, _ => rfl
  | x :: L, key, h => by
    have hx : ¬ x.k = key := h 0 (by simp)
    have ih := keyI_none L key (fun j hj => by simpa using h (j + 1) (by simpa using hj))
    rw [keyI, if_neg hx, ih]
    decide
theorem keyI_cases (L : List Ent) (key : Int) : (keyI L key = -1 ∧ ∀ j, j < L.length → (L.getD j ent0).k ≠ key) ∨ ∃ k : Nat, k < L.length ∧ keyI L key = (k : Int) ∧ (L.getD k ent0).k = key := by
  induction L with
  | nil => exact .inl ⟨rfl, fun j hj => by simp at hj⟩
  | cons x L ih =>
    by_cases hx : x.k = key
    · exact .inr ⟨0, by simp, by simp [keyI, hx], by simpa using hx⟩
    · rcases ih with ⟨h1, h2⟩ | ⟨k, h1, h2, h3⟩
      · refine .inl ⟨by rw [keyI, if_neg hx, h1]; decide, fun j hj => ?_⟩
        cases j with
        | zero => simpa using hx
        | succ j => simpa using h2 j (by simpa using hj)
      · exact .inr ⟨k + 1, by simpa using h1, by rw [keyI, if_neg hx, h2, if_neg (by omega)]; omega, by simpa using h3⟩
/-- the number that came of a key, and what is told -/
def matchV (L : List Ent) (key : Int) (b : ByteArray) : Int := if keyI L key < 0 then 0 else if (L.getD (keyI L key).toNat ent0).b = b then (L.getD (keyI L key).toNat ent0).n else 0
def matchE (L : List Ent) (key : Int) (b : ByteArray) : Int := if keyI L key < 0 then 15 else if (L.getD (keyI L key).toNat ent0).b = b then 0 else 17
/-- one more; the eldest goes, if there are more than so many -/
def putL' (L : List Ent) (lim : Nat) (x : Ent) : List Ent := (L ++ [x]).drop (L.length + 1 - lim)
end Go.Proofs.Ytmomjefbifoliaa
