/-
  Layer 3's laws, walked: CentsTimes.
-/
import Derived.Test.YtbfllpidnfcmpaaDoorCents7
namespace Go.Proofs.YtbfllpidnfcmpaaDoor
set_option linter.unusedSimpArgs false
set_option linter.unusedVariables false
open Go.RowKit Go.WideShapes Go.ChangeShapes Go.ChangeAt

theorem sum_grow (a : Int) (j : Nat) : sumV (a * ((j + 1 : Nat) : Int)) = (if sumE (a * (j : Int)) = 0 then sumV (sumV (a * (j : Int)) + a) else 0) ∧ sumE (a * ((j + 1 : Nat) : Int)) = (if sumE (a * (j : Int)) = 0 then sumE (sumV (a * (j : Int)) + a) else 6) := by
  have e : a * ((j + 1 : Nat) : Int) = a * (j : Int) + a := by rw [Int.natCast_add, Int.mul_add]; simp
  rw [e]
  by_cases h : inR (a * (j : Int))
  · obtain ⟨v1, v2⟩ := sum_in h
    rw [v2, if_pos rfl, if_pos rfl, v1]
    exact ⟨rfl, rfl⟩
  · obtain ⟨v1, v2⟩ := sum_out h
    rw [v2, if_neg (by decide), if_neg (by decide)]
    apply sum_out
    intro h2
    apply h
    unfold inR at *
    by_cases ha : 0 ≤ a
    · have h0 : 0 ≤ a * (j : Int) := Int.mul_nonneg ha (by omega)
      omega
    · have h0 : a * (j : Int) ≤ 0 := Int.mul_nonpos_of_nonpos_of_nonneg (by omega) (by omega)
      omega
theorem sumV_in (s : Int) : inR (sumV s) := by
  by_cases h : inR s
  · rw [(sum_in h).1]; exact h
  · rw [(sum_out h).1]; unfold inR; omega
theorem sum_zero (s : Int) (h : sumE s = 6) : sumV s = 0 := by
  unfold sumE at h
  unfold sumV
  split at h
  · cases h
  · rename_i h2
    rw [if_neg h2]
theorem sumE_two (s : Int) : sumE s = 0 ∨ sumE s = 6 := by
  unfold sumE
  split <;> simp

theorem make_cents (k : Nat) (h : k ≤ 1000) (W : World) : ∃ W', (Instr.makeSlice 33 (.int .i64 0) (.int .i64 (k : Int))).run Tryd.prog W = .ok (.slice (some ⟨W.heap.size, 0, none⟩) 0 k) W' ∧ RowKit.Below W.heap.size W W' := by
  obtain ⟨i, hi, hz, hs, hbb⟩ := info_parts (show (Tryd.prog.info? 22).map (fun i => (i.zero, i.size, i.bytes)) = some (some (.int .i64 0), 1, 8) by kernel_rfl)
  have hr := run_make (P := Tryd.prog) W 33 22 i _ Tryd.underlying33 hi hz .i64 .i64 0 k (by omega) (by omega) (by rw [hbb]; omega) (by omega)
  exact ⟨_, hr, (RowKit.Below.refl _ _).alloc (Nat.le_refl _) _⟩
theorem total_empty (b cap : Nat) (w : World) :
    Calls Tryd.prog 15 #[.slice (some ⟨b, 0, none⟩) 0 cap] w fun e w' => e = .returned (.tuple #[.int .i64 0, .int .i64 0]) ∧ w = w' :=
  total_any [] (by intro x hx; cases hx) (by decide) b 0 cap w (fun k hk => absurd hk (Nat.not_lt_zero _))

set_option maxRecDepth 100000 in
set_option maxHeartbeats 400000 in
theorem times_law (a : Int) (ha : inR a) (N : Nat) (hN : N < 256) (w : World) (htab : Tab w) :
    Calls Tryd.prog 7 #[.int .i64 a, .int .u8 (N : Int)] w fun e w' => e = .returned (.bool true) ∧ RowKit.Below w.heap.size w w' := by
  have HT := hide htab
  have HA := hide ha
  obtain ⟨k, hk⟩ : ∃ k, N % 40 = k := ⟨_, rfl⟩
  have hki : (N : Int) % 40 = (k : Int) := by omega
  have hk40 : k < 40 := by omega
  have hwk : IntKind.i64.wrap (k : Int) = k := by rw [IntKind.wrap_i64]; omega
  have hwk2 : wrap64 (k : Int) = k := by unfold wrap64; omega
  have HTM := hide (ctimes_any a k ha (by unfold inR; omega))
  clear ha htab hN hk
  go_enter Tryd.func7, Tryd.ntmps7
  go_wp2_with fail
  refine (HTM.out _).mono ?_
  rintro e w' ⟨rfl, rfl⟩
  obtain ⟨X, hX⟩ : ∃ X, sumV (a * (k : Int)) = X := ⟨_, rfl⟩
  obtain ⟨E, hE⟩ : ∃ E, sumE (a * (k : Int)) = E := ⟨_, rfl⟩
  rw [hX, hE]
  have HX := hide hX
  have HE := hide hE
  clear hX hE HTM
  obtain ⟨w1, hmk, hb⟩ := make_cents k (by omega) w
  have HB1 := hide hb
  have HT1 := hide (tab_below HT.out hb)
  clear hb
  go_wp2_with fail
  clear hmk
  refine (total_empty _ _ _).mono ?_
  rintro e w' ⟨rfl, rfl⟩
  go_wp2_with fail
  go_loop [8, 9, 26] (fun y f i => ∃ j : Nat, j ≤ k ∧ i = .int .i64 j ∧ y = .int .i64 (sumV (a * (j : Int))) ∧ f = .int .i64 (sumE (a * (j : Int)))) (fun _ _ i => k - (intOf i).toNat)
  case atStart => exact ⟨0, by omega, rfl, by simp [sumV, inR], by simp [sumE, inR]⟩
  case round =>
    obtain ⟨j, hj, rfl, rfl, rfl⟩ := hrel
    by_cases hlt : j < k
    · obtain ⟨g1, g2⟩ := sum_grow a j
      have HAD := hide (cadd_any (sumV (a * (j : Int))) a (sumV_in _) HA.out)
      have h2 := sumE_two (a * (j : Int))
      have hz := sum_zero (a * (j : Int))
      generalize sumV (a * (j : Int)) = y at *
      generalize sumE (a * (j : Int)) = f at *
      obtain rfl | rfl := h2
      · clear hz
        rw [if_pos rfl] at g1 g2
        have HG1 := hide g1
        have HG2 := hide g2
        clear g1 g2
        go_wp2_with fail
        refine (HAD.out _).mono ?_
        rintro e w' ⟨rfl, rfl⟩
        go_wp2_with fail
        go_round
        case rel => exact ⟨j + 1, by omega, by go_num, congrArg _ HG1.out.symm, congrArg _ HG2.out.symm⟩
        case measure => simp [intOf]; omega
      · rw [if_neg (by decide)] at g1 g2
        obtain rfl := hz rfl
        have HG1 := hide g1
        have HG2 := hide g2
        clear g1 g2 hz
        go_wp2_with fail
        go_round
        case rel => exact ⟨j + 1, by omega, by go_num, congrArg _ HG1.out.symm, congrArg _ HG2.out.symm⟩
        case measure => simp [intOf]; omega
    · obtain rfl : j = k := by omega
      rw [HX.out, HE.out]
      go_wp2_with fail
      refine (wakes_any _ HT1.out).mono ?_
      rintro e w2 ⟨rfl, hb⟩
      have HB2 := hide (HB1.out.trans (hb.mono HB1.out.size))
      clear hb
      by_cases hE0 : E = 0
      · subst hE0
        go_wp2_with fail
        go_ret
        exact ⟨rfl, HB2.out⟩
      · go_wp2_with fail
        go_ret
        exact ⟨rfl, HB2.out⟩
end Go.Proofs.YtbfllpidnfcmpaaDoor
