/-
  Layer 3, the program's calls: sums, differences, products by contract.
-/
import Derived.Test.YtnnggchkdffpnaaDoorKitD
import Derived.Laws.Externs
namespace Go.Proofs.YtnnggchkdffpnaaDoor
set_option linter.unusedSimpArgs false
set_option linter.unusedVariables false
open Go.RowKit Go.WideShapes Go.ChangeShapes Go.ChangeAt

def inR (s : Int) : Prop := -9223372036854775808 ≤ s ∧ s ≤ 9223372036854775807
instance (s : Int) : Decidable (inR s) := by unfold inR; infer_instance
def sumV (s : Int) : Int := if inR s then s else 0
def sumE (s : Int) : Int := if inR s then 0 else 6
theorem sum_in {s : Int} (h : inR s) : sumV s = s ∧ sumE s = 0 := by unfold sumV sumE; rw [if_pos h, if_pos h]; exact ⟨rfl, rfl⟩
theorem sum_out {s : Int} (h : ¬ inR s) : sumV s = 0 ∧ sumE s = 6 := by unfold sumV sumE; rw [if_neg h, if_neg h]; exact ⟨rfl, rfl⟩
theorem wrap_in {s : Int} (h : inR s) : IntKind.i64.wrap s = s := by obtain ⟨h1, h2⟩ := h; rw [IntKind.wrap_i64]; omega
theorem wrap_over {s : Int} (h1 : 9223372036854775807 < s) (h2 : s ≤ 27670116110564327423) : IntKind.i64.wrap s = s - 18446744073709551616 := by rw [IntKind.wrap_i64]; omega
theorem wrap_under {s : Int} (h1 : s < -9223372036854775808) (h2 : -18446744073709551616 ≤ s) : IntKind.i64.wrap s = s + 18446744073709551616 := by rw [IntKind.wrap_i64]; omega
/-- the test that tells a sum that went round -/
theorem add_test (a b s : Int) (ha : inR a) (hb : inR b) (hs : IntKind.i64.wrap (a + b) = s) : (inR (a + b) → s = a + b ∧ ((a < s ↔ 0 < b) ∨ b = 0)) ∧ (¬ inR (a + b) → ¬ (a < s ↔ 0 < b) ∧ ¬ b = 0) := by
  unfold inR at *
  constructor
  · intro h
    rw [wrap_in h] at hs
    omega
  · intro h
    by_cases h1 : 9223372036854775807 < a + b
    · rw [wrap_over h1 (by omega)] at hs; omega
    · rw [wrap_under (by omega) (by omega)] at hs; omega
theorem sub_test (a b s : Int) (ha : inR a) (hb : inR b) (hs : IntKind.i64.wrap (a - b) = s) : (inR (a - b) → s = a - b ∧ ((s < a ↔ 0 < b) ∨ b = 0)) ∧ (¬ inR (a - b) → ¬ (s < a ↔ 0 < b) ∧ ¬ b = 0) := by
  unfold inR at *
  constructor
  · intro h
    rw [wrap_in h] at hs
    omega
  · intro h
    by_cases h1 : 9223372036854775807 < a - b
    · rw [wrap_over h1 (by omega)] at hs; omega
    · rw [wrap_under (by omega) (by omega)] at hs; omega
theorem ret_two {a a' b b' : Int} {k l : IntKind} (h1 : a = a') (h2 : b = b') : Ending.returned (.tuple #[.int k a, .int l b]) = .returned (.tuple #[.int k a', .int l b']) := by rw [h1, h2]
set_option maxRecDepth 100000 in
set_option maxHeartbeats 400000 in
theorem cadd_any (a b : Int) (ha : inR a) (hb : inR b) (w : World) :
    Calls Tryd.prog 18 #[.int .i64 a, .int .i64 b] w fun e w' => e = .returned (.tuple #[.int .i64 (sumV (a + b)), .int .i64 (sumE (a + b))]) ∧ w = w' := by
  obtain ⟨s, hs⟩ : ∃ s, IntKind.i64.wrap (a + b) = s := ⟨_, rfl⟩
  obtain ⟨t1, t2⟩ := add_test a b s ha hb hs
  by_cases hin : inR (a + b)
  · obtain ⟨e, ht⟩ := t1 hin
    have HE := hide e
    obtain ⟨v1, v2⟩ := sum_in hin
    rw [v1, v2]
    clear t1 t2 hin v1 v2 hb
    by_cases h0 : b = 0
    · have hz : wrap64 a = a := by unfold wrap64; unfold inR at ha; omega
      have HZ := hide hz
      subst h0
      clear e ht HE hs ha hz
      have e0 : a + 0 = a := Int.add_zero a
      rw [e0]
      go_enter Tryd.func18, Tryd.ntmps18
      go_wp2_with fail
      all_goals (go_ret2; exact ⟨ret_two HZ.out rfl, rfl⟩)
    · clear e ha
      have ht := ht.resolve_right h0
      by_cases h1 : 0 < b
      · have h2 : a < s := ht.2 h1
        clear ht
        go_enter Tryd.func18, Tryd.ntmps18
        go_wp2_with fail
        go_ret2
        exact ⟨ret_two HE.out rfl, rfl⟩
      · have h2 : ¬ a < s := fun h => h1 (ht.1 h)
        clear ht
        go_enter Tryd.func18, Tryd.ntmps18
        go_wp2_with fail
        go_ret2
        exact ⟨ret_two HE.out rfl, rfl⟩
  · obtain ⟨ht, h0⟩ := t2 hin
    obtain ⟨v1, v2⟩ := sum_out hin
    rw [v1, v2]
    clear t1 t2 hin v1 v2 ha hb
    by_cases h1 : 0 < b
    · have h2 : ¬ a < s := fun h => ht ⟨fun _ => h1, fun _ => h⟩
      clear ht
      go_enter Tryd.func18, Tryd.ntmps18
      go_wp2_with fail
      go_ret2
      exact ⟨rfl, rfl⟩
    · have h2 : a < s := by
        by_cases h : a < s
        · exact h
        · exact absurd ⟨fun h' => absurd h' h, fun h' => absurd h' h1⟩ ht
      clear ht
      go_enter Tryd.func18, Tryd.ntmps18
      go_wp2_with fail
      go_ret2
      exact ⟨rfl, rfl⟩
end Go.Proofs.YtnnggchkdffpnaaDoor
