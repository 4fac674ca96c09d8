/-
  Layer 25: last; a row of rows, one turned.
-/
import Derived.Test.YtbnbfnlfgmlcgaaSale2
--import Derived.Test.Zdbg
namespace Go.Proofs.Ytbnbfnlfgmlcgaa
set_option linter.unusedSimpArgs false
set_option linter.unusedVariables false
open Go.RowKit Go.WideShapes Go.ChangeShapes Go.ChangeAt Go.Deep

theorem flat_set {α : Type} (f : α → List Value) (n : Nat) (hf : ∀ x, (f x).length = n) (d : α) (y : α) (u : Value) (j : Nat) (hj : j < n) : ∀ (L : List α) (i : Nat), i < L.length → (f (L.getD i d)).set j u = f y → (L.flatMap f).set (i * n + j) u = (L.set i y).flatMap f
  | [], i, h, _ => by simp at h
  | x :: L, 0, _, he => by
    have he' : (f x).set j u = f y := he
    rw [List.flatMap_cons, Nat.zero_mul, Nat.zero_add, List.set_append_left _ _ (by rw [hf]; exact hj), he', List.set_cons_zero, List.flatMap_cons]
  | x :: L, i + 1, h, he => by
    have he' : (f (L.getD i d)).set j u = f y := by simpa using he
    have ih := flat_set f n hf d y u j hj L i (by simpa using h) he'
    rw [List.flatMap_cons, List.set_append_right _ _ (by rw [hf, Nat.succ_mul]; omega), hf, show (i + 1) * n + j - n = i * n + j by rw [Nat.succ_mul]; omega, ih, List.set_cons_succ, List.flatMap_cons]
set_option maxRecDepth 100000 in
set_option maxHeartbeats 1000000 in
theorem lastsl_any (g o n cap : Nat) (keep : Int) (hk : 1 ≤ keep ∧ keep ≤ 512) (hn : 0 < n ∧ n ≤ 600) (hc : n ≤ cap) (hcm : cap ≤ maxLen) (k : Nat) (hkk : n - keep.toNat = k) (w : World) :
    Calls Try.prog 45 #[.slice (some ⟨g, o, none⟩) n cap, .int .i64 keep] w fun e w' => e = .returned (.slice (some ⟨g, o + k * 8, none⟩) (n - k) (cap - k)) ∧ w = w' := by
  unfold maxLen at hcm
  have hkn : k < n := by omega
  have hw1 : wrap64 ((n : Int) - keep) = (n : Int) - keep := by unfold wrap64; omega
  have hmF : (if 0 > (n : Int) - keep then 0 else (n : Int) - keep) = (k : Int) := by split <;> omega
  have hmF2 : (if 0 < (n : Int) - keep then (n : Int) - keep else 0) = (k : Int) := by split <;> omega
  have hmI : max ((n : Int) - keep) 0 = (k : Int) := by omega
  have hmI2 : max 0 ((n : Int) - keep) = (k : Int) := by omega
  have h1 : (k : Int) ≤ (n : Int) := by omega
  have h2 : (n : Int) ≤ (cap : Int) := by omega
  have h3 : ¬ cap = k := by omega
  have h4 : ¬ cap - k = 0 := by omega
  clear hkk
  go_enter Try.func45, Try.ntmps45
  go_wp2_with fail
  go_ret
  exact ⟨rfl, rfl⟩
end Go.Proofs.Ytbnbfnlfgmlcgaa
