/-
  Layer 3: the sum of all by contract.
-/
import Derived.Test.YtnnggchkdffpnaaDoorCents2
namespace Go.Proofs.YtnnggchkdffpnaaDoor
set_option linter.unusedSimpArgs false
set_option linter.unusedVariables false
open Go.RowKit Go.WideShapes Go.ChangeShapes Go.ChangeAt

theorem sum_step (xs : List Int) (k : Nat) (h : k < xs.length) : (xs.take (k + 1)).sum = (xs.take k).sum + xs.getD k 0 := by
  rw [List.take_add_one, List.getElem?_eq_getElem h, List.sum_append]
  simp [List.getD, h]
theorem sum_bd : ∀ (xs : List Int), (∀ x ∈ xs, inR x) → -9223372036854775808 * (xs.length : Int) ≤ xs.sum ∧ xs.sum ≤ 9223372036854775808 * (xs.length : Int)
  | [], _ => by simp
  | x :: xs, h => by
    have h1 := h x (by simp)
    have h2 := sum_bd xs fun y hy => h y (by simp [hy])
    unfold inR at h1
    simp only [List.sum_cons, List.length_cons]
    omega
theorem getD_in (xs : List Int) (h : ∀ x ∈ xs, inR x) (k : Nat) (hk : k < xs.length) : inR (xs.getD k 0) := by
  rw [List.getD, List.getElem?_eq_getElem hk]
  exact h _ (List.getElem_mem hk)
/-- one step of the long sum -/
theorem long_step (q lo x uc : Int) (hl : 0 ≤ lo ∧ lo < 18446744073709551616) (hx : inR x) (hu : IntKind.u64.wrap x = uc) (S : Int) (hS : S = 18446744073709551616 * q + lo) :
    ∃ q' : Int, S + x = 18446744073709551616 * q' + (lo + uc) % 18446744073709551616 ∧ q' = q + (lo + uc) / 18446744073709551616 + x / 9223372036854775808 := by
  refine ⟨_, ?_, rfl⟩
  unfold inR at hx
  rw [IntKind.wrap_u64] at hu
  omega
/-- the test at the long sum's end -/
theorem long_end (q lo S : Int) (hl : 0 ≤ lo ∧ lo < 18446744073709551616) (hq : -2000000 ≤ q ∧ q ≤ 2000000) (hS : S = 18446744073709551616 * q + lo) :
    (inR S → (q % 18446744073709551616 = IntKind.u64.wrap (wrap64 lo / 9223372036854775808)) ∧ wrap64 lo = S) ∧ (¬ inR S → ¬ q % 18446744073709551616 = IntKind.u64.wrap (wrap64 lo / 9223372036854775808)) := by
  unfold inR wrap64
  rw [IntKind.wrap_u64]
  constructor
  · intro h
    omega
  · intro h h2
    omega

set_option maxRecDepth 100000 in
set_option maxHeartbeats 400000 in
theorem total_any (xs : List Int) (hx : ∀ x ∈ xs, inR x) (hn : xs.length ≤ 1000000) (b o cap : Nat) (w : World) (hc : ∀ k, k < xs.length → w.cell? ⟨b, o + k, none⟩ = some (.int .i64 (xs.getD k 0))) :
    Calls Tryd.prog 29 #[.slice (some ⟨b, o, none⟩) xs.length cap] w fun e w' => e = .returned (.tuple #[.int .i64 (sumV xs.sum), .int .i64 (sumE xs.sum)]) ∧ w = w' := by
  have HX := hide hx
  have HC := hide hc
  have HN := hide hn
  clear hx hc
  go_enter Tryd.func29, Tryd.ntmps29
  go_wp2_with fail
  go_loop [4, 5, 11] (fun hi l i => ∃ (k : Nat) (q lo : Int), k ≤ xs.length ∧ i = .int .i64 k ∧ l = .int .u64 lo ∧ hi = .int .u64 (q % 18446744073709551616) ∧ (0 ≤ lo ∧ lo < 18446744073709551616) ∧ (xs.take k).sum = 18446744073709551616 * q + lo) (fun _ _ i => xs.length - (intOf i).toNat)
  case atStart => exact ⟨0, 0, 0, by omega, rfl, rfl, rfl, by omega, by simp⟩
  case round =>
    obtain ⟨k, q, lo, hk, rfl, rfl, rfl, hl, hS⟩ := hrel
    by_cases hlt : k < xs.length
    · have hcell := HC.out k hlt
      have hxr := getD_in xs HX.out k hlt
      obtain ⟨uc, huc⟩ : ∃ uc, IntKind.u64.wrap (xs.getD k 0) = uc := ⟨_, rfl⟩
      obtain ⟨q', e1, e2⟩ := long_step q lo (xs.getD k 0) uc hl hxr huc _ hS
      have HE1 := hide e1
      have HE2 := hide e2
      have HST := hide (sum_step xs k hlt)
      have hu0 : 0 ≤ uc := by rw [← huc, IntKind.wrap_u64]; omega
      have HL := hide hl
      have HXR := hide hxr
      have hl0 := hl.1
      clear hS e1 e2 hxr hl
      generalize xs.getD k 0 = x at *
      go_wp2_with (simp only [add64_0 lo uc hl0 hu0])
      go_round
      case rel =>
        refine ⟨k + 1, q', (lo + uc) % 18446744073709551616, by omega, by go_num, rfl, congrArg (Value.int .u64) ?_, by omega, by rw [HST.out, HE1.out]⟩
        rw [HE2.out, IntKind.wrap_u64, IntKind.wrap_u64, IntKind.wrap_u64]
        omega
      case measure => simp [intOf]; omega
    · obtain rfl : k = xs.length := by omega
      rw [List.take_length] at hS
      have hb := sum_bd xs HX.out
      obtain ⟨t1, t2⟩ := long_end q lo xs.sum hl (by omega) hS
      by_cases hin : inR xs.sum
      · obtain ⟨v1, v2⟩ := sum_in hin
        obtain ⟨g1, g2⟩ := t1 hin
        have HG := hide g2
        have HV1 := hide v1
        have HV2 := hide v2
        clear t1 t2 hin v1 v2 hb hS hl hn g2
        generalize q % 18446744073709551616 = hi at *
        go_wp2_with fail
        go_ret2
        exact ⟨ret_two (HG.out.trans HV1.out.symm) HV2.out.symm, rfl⟩
      · obtain ⟨v1, v2⟩ := sum_out hin
        have g1 := t2 hin
        have HV1 := hide v1
        have HV2 := hide v2
        clear t1 t2 hin v1 v2 hb hS hl hn
        generalize q % 18446744073709551616 = hi at *
        go_wp2_with fail
        go_ret2
        exact ⟨ret_two HV1.out.symm HV2.out.symm, rfl⟩

theorem total_nil (cap : Nat) (w : World) :
    Calls Tryd.prog 29 #[.slice none 0 cap] w fun e w' => e = .returned (.tuple #[.int .i64 0, .int .i64 0]) ∧ w = w' := by
  go_enter Tryd.func29, Tryd.ntmps29
  go_wp2_with fail
  go_loop [4, 5, 11] (fun hi l i => l = .int .u64 0 ∧ hi = .int .u64 0 ∧ i = .int .i64 0) (fun _ _ _ => 0)
  case atStart => exact ⟨rfl, rfl, rfl⟩
  case round =>
    obtain ⟨rfl, rfl, rfl⟩ := hrel
    go_wp2_with fail
    go_ret2
    exact ⟨rfl, rfl⟩
end Go.Proofs.YtnnggchkdffpnaaDoor
