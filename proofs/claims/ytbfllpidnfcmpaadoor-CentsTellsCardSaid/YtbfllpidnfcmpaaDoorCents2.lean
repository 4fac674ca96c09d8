/-
  Layer 3, the program's calls: how far from 0, products, sums with a carry.
-/
import Derived.Test.YtbfllpidnfcmpaaDoorCents
namespace Go.Proofs.YtbfllpidnfcmpaaDoor
set_option linter.unusedSimpArgs false
set_option linter.unusedVariables false
open Go.RowKit Go.WideShapes Go.ChangeShapes Go.ChangeAt

theorem wrapu_neg {n : Int} (h : inR n) (h1 : n < 0) : IntKind.u64.wrap (-IntKind.u64.wrap n) = (n.natAbs : Int) := by unfold inR at h; rw [IntKind.wrap_u64, IntKind.wrap_u64]; omega
theorem wrapu_pos {n : Int} (h : inR n) (h1 : 0 ≤ n) : IntKind.u64.wrap n = (n.natAbs : Int) := by unfold inR at h; rw [IntKind.wrap_u64]; omega
theorem ret_one {a a' : Int} {k : IntKind} (h1 : a = a') : Ending.returned (.int k a) = .returned (.int k a') := by rw [h1]

theorem size_any (n : Int) (hn : inR n) (w : World) :
    Calls Tryd.prog 25 #[.int .i64 n] w fun e w' => e = .returned (.int .u64 (n.natAbs : Int)) ∧ w = w' := by
  by_cases h : n < 0
  · have E := hide (wrapu_neg hn h)
    clear hn
    go_enter Tryd.func25, Tryd.ntmps25
    go_wp2_with fail
    go_ret
    exact ⟨ret_one E.out, rfl⟩
  · have E := hide (wrapu_pos hn (by omega))
    clear hn
    go_enter Tryd.func25, Tryd.ntmps25
    go_wp2_with fail
    go_ret
    exact ⟨ret_one E.out, rfl⟩

theorem size_at (n : Int) (A : Nat) (hn : inR n) (hA : n.natAbs = A) (w : World) :
    Calls Tryd.prog 25 #[.int .i64 n] w fun e w' => e = .returned (.int .u64 (A : Int)) ∧ w = w' := hA ▸ size_any n hn w

theorem mul_any (x y hi lo : Nat) (hx : x ≤ 9223372036854775808) (hy : y ≤ 9223372036854775808) (h1 : x * y / 18446744073709551616 = hi) (h2 : x * y % 18446744073709551616 = lo) (w : World) :
    Calls Tryd.prog 24 #[.int .u64 x, .int .u64 y] w fun e w' => e = .returned (.tuple #[.int .u64 (hi : Int), .int .u64 (lo : Int)]) ∧ w = w' := by
  refine (Tryd.bits_Mul64 x y (by omega) (by omega) w).mono ?_
  rintro e w' ⟨rfl, rfl⟩
  rw [h1, h2]
  exact ⟨rfl, rfl⟩

theorem add64_0 (x y : Int) (hx : 0 ≤ x) (hy : 0 ≤ y) (w : World) : (callFunc 26 #[.int .u64 x, .int .u64 y, .int .u64 0]).run Tryd.prog w =
    .ok (.value (.tuple #[.int .u64 ((x + y) % 18446744073709551616), .int .u64 ((x + y) / 18446744073709551616)])) w := by
  rw [run_callFunc_extern Tryd.func26 (by kernel_rfl) (by kernel_rfl) (by kernel_rfl) (e := add64Entry) (by kernel_rfl), run_add64 x y 0 hx hy (by omega) (by omega)]
  simp [Result.andThen]

/-- the product, by its size: what stands above, what below -/
theorem prod_parts (a n : Int) (hi lo : Nat) (h1 : a.natAbs * n.natAbs / 18446744073709551616 = hi) (h2 : a.natAbs * n.natAbs % 18446744073709551616 = lo) :
    ((a < 0 ↔ n < 0) → a * n = 18446744073709551616 * (hi : Int) + lo) ∧ (¬ (a < 0 ↔ n < 0) → a * n = -(18446744073709551616 * (hi : Int) + lo)) := by
  have hp : a.natAbs * n.natAbs = 18446744073709551616 * hi + lo := by omega
  have hq : ((a.natAbs * n.natAbs : Nat) : Int) = 18446744073709551616 * (hi : Int) + lo := by rw [hp]; simp
  rw [Int.natCast_mul] at hq
  constructor
  · intro h
    by_cases h3 : a < 0
    · have h4 := h.1 h3
      have ea : ((a.natAbs : Nat) : Int) = -a := by omega
      have en : ((n.natAbs : Nat) : Int) = -n := by omega
      rw [ea, en, Int.neg_mul_neg] at hq
      exact hq
    · have h4 : ¬ n < 0 := fun k => h3 (h.2 k)
      have ea : ((a.natAbs : Nat) : Int) = a := by omega
      have en : ((n.natAbs : Nat) : Int) = n := by omega
      rw [ea, en] at hq
      exact hq
  · intro h
    by_cases h3 : a < 0
    · have h4 : ¬ n < 0 := fun k => h ⟨fun _ => k, fun _ => h3⟩
      have ea : ((a.natAbs : Nat) : Int) = -a := by omega
      have en : ((n.natAbs : Nat) : Int) = n := by omega
      rw [ea, en, Int.neg_mul] at hq
      omega
    · have h4 : n < 0 := by
        by_cases k : n < 0
        · exact k
        · exact absurd ⟨fun k' => absurd k' h3, fun k' => absurd k' k⟩ h
      have ea : ((a.natAbs : Nat) : Int) = a := by omega
      have en : ((n.natAbs : Nat) : Int) = -n := by omega
      rw [ea, en, Int.mul_neg] at hq
      omega

set_option maxRecDepth 100000 in
set_option maxHeartbeats 400000 in
theorem ctimes_same (a n : Int) (ha : inR a) (hn : inR n) (hs : (a < 0 ↔ n < 0)) (w : World) :
    Calls Tryd.prog 12 #[.int .i64 a, .int .i64 n] w fun e w' => e = .returned (.tuple #[.int .i64 (sumV (a * n)), .int .i64 (sumE (a * n))]) ∧ w = w' := by
  obtain ⟨hi, h1⟩ : ∃ hi, a.natAbs * n.natAbs / 18446744073709551616 = hi := ⟨_, rfl⟩
  obtain ⟨lo, h2⟩ : ∃ lo, a.natAbs * n.natAbs % 18446744073709551616 = lo := ⟨_, rfl⟩
  have hp0 := (prod_parts a n hi lo h1 h2).1 hs
  have hlo : lo < 18446744073709551616 := by omega
  have xA : a.natAbs ≤ 9223372036854775808 := by unfold inR at ha; omega
  have xN : n.natAbs ≤ 9223372036854775808 := by unfold inR at hn; omega
  obtain ⟨A, hA⟩ : ∃ A, a.natAbs = A := ⟨_, rfl⟩
  obtain ⟨N, hN⟩ : ∃ N, n.natAbs = N := ⟨_, rfl⟩
  rw [hA] at h1 h2 xA
  rw [hN] at h1 h2 xN
  have HSa := hide (fun W => size_at a A ha hA W)
  have HSn := hide (fun W => size_at n N hn hN W)
  have hg : (a < 0 ∧ n < 0) ∨ (¬ a < 0 ∧ ¬ n < 0) := by
    by_cases g : a < 0
    · exact .inl ⟨g, hs.1 g⟩
    · exact .inr ⟨g, fun k => g (hs.2 k)⟩
  clear ha hn hA hN hs
  by_cases g1 : hi = 0
  · subst g1
    have HM := hide (show ∀ W, Calls Tryd.prog 24 #[.int .u64 (A : Int), .int .u64 (N : Int)] W fun e w' => e = .returned (.tuple #[.int .u64 0, .int .u64 (lo : Int)]) ∧ W = w' from fun W => mul_any _ _ 0 lo xA xN h1 h2 W)
    have hp : a * n = (lo : Int) := by omega
    clear xA xN h1 h2 hp0
    by_cases g2 : lo ≤ 9223372036854775807
    · have hin : inR (a * n) := by unfold inR; omega
      obtain ⟨v1, v2⟩ := sum_in hin
      rw [v1, v2]
      have HR := hide hp
      have g3 : (lo : Int) ≤ 9223372036854775807 := by omega
      clear hp hin v1 v2
      rcases hg with ⟨g4, g5⟩ | ⟨g4, g5⟩
      · have HL := hide hlo
        have HG := hide g2
        clear hlo g2
        go_enter Tryd.func12, Tryd.ntmps12
        go_wp2_with (first | (go_at_call 24; with_reducible refine (HM.out _).mono ?_; rintro e w' ⟨rfl, rfl⟩) | (go_at_call 25; with_reducible refine (HSa.out _).mono ?_; rintro e w' ⟨rfl, rfl⟩) | (go_at_call 25; with_reducible refine (HSn.out _).mono ?_; rintro e w' ⟨rfl, rfl⟩))
        all_goals first | (go_ret2; exact ⟨ret_two (by first | exact HR.out.symm | (have := HR.out; have := HL.out; have := HG.out; unfold wrap64; omega)) rfl, rfl⟩) | (exfalso; simp_all; done) | (exfalso; simp_all; omega)
      · have HL := hide hlo
        have HG := hide g2
        clear hlo g2
        go_enter Tryd.func12, Tryd.ntmps12
        go_wp2_with (first | (go_at_call 24; with_reducible refine (HM.out _).mono ?_; rintro e w' ⟨rfl, rfl⟩) | (go_at_call 25; with_reducible refine (HSa.out _).mono ?_; rintro e w' ⟨rfl, rfl⟩) | (go_at_call 25; with_reducible refine (HSn.out _).mono ?_; rintro e w' ⟨rfl, rfl⟩))
        all_goals first | (go_ret2; exact ⟨ret_two (by first | exact HR.out.symm | (have := HR.out; have := HL.out; have := HG.out; unfold wrap64; omega)) rfl, rfl⟩) | (exfalso; simp_all; done) | (exfalso; simp_all; omega)
    · have hin : ¬ inR (a * n) := by unfold inR; omega
      obtain ⟨v1, v2⟩ := sum_out hin
      rw [v1, v2]
      have g3 : 9223372036854775807 < (lo : Int) := by omega
      clear hp hin v1 v2 hlo g2
      rcases hg with ⟨g4, g5⟩ | ⟨g4, g5⟩
      · go_enter Tryd.func12, Tryd.ntmps12
        go_wp2_with (first | (go_at_call 24; with_reducible refine (HM.out _).mono ?_; rintro e w' ⟨rfl, rfl⟩) | (go_at_call 25; with_reducible refine (HSa.out _).mono ?_; rintro e w' ⟨rfl, rfl⟩) | (go_at_call 25; with_reducible refine (HSn.out _).mono ?_; rintro e w' ⟨rfl, rfl⟩))
        all_goals first | (go_ret2; exact ⟨rfl, rfl⟩) | (exfalso; simp_all; done) | (exfalso; simp_all; omega)
      · go_enter Tryd.func12, Tryd.ntmps12
        go_wp2_with (first | (go_at_call 24; with_reducible refine (HM.out _).mono ?_; rintro e w' ⟨rfl, rfl⟩) | (go_at_call 25; with_reducible refine (HSa.out _).mono ?_; rintro e w' ⟨rfl, rfl⟩) | (go_at_call 25; with_reducible refine (HSn.out _).mono ?_; rintro e w' ⟨rfl, rfl⟩))
        all_goals first | (go_ret2; exact ⟨rfl, rfl⟩) | (exfalso; simp_all; done) | (exfalso; simp_all; omega)
  · have HM := hide (show ∀ W, Calls Tryd.prog 24 #[.int .u64 (A : Int), .int .u64 (N : Int)] W fun e w' => e = .returned (.tuple #[.int .u64 (hi : Int), .int .u64 (lo : Int)]) ∧ W = w' from fun W => mul_any _ _ hi lo xA xN h1 h2 W)
    have hin : ¬ inR (a * n) := by unfold inR; omega
    obtain ⟨v1, v2⟩ := sum_out hin
    rw [v1, v2]
    have g3 : ¬ (hi : Int) = 0 := by omega
    clear hp0 hin v1 v2 hlo g1 xA xN h1 h2
    rcases hg with ⟨g4, g5⟩ | ⟨g4, g5⟩
    · go_enter Tryd.func12, Tryd.ntmps12
      go_wp2_with (first | (go_at_call 24; with_reducible refine (HM.out _).mono ?_; rintro e w' ⟨rfl, rfl⟩) | (go_at_call 25; with_reducible refine (HSa.out _).mono ?_; rintro e w' ⟨rfl, rfl⟩) | (go_at_call 25; with_reducible refine (HSn.out _).mono ?_; rintro e w' ⟨rfl, rfl⟩))
      all_goals first | (go_ret2; exact ⟨rfl, rfl⟩) | (exfalso; simp_all; done) | (exfalso; simp_all; omega)
    · go_enter Tryd.func12, Tryd.ntmps12
      go_wp2_with (first | (go_at_call 24; with_reducible refine (HM.out _).mono ?_; rintro e w' ⟨rfl, rfl⟩) | (go_at_call 25; with_reducible refine (HSa.out _).mono ?_; rintro e w' ⟨rfl, rfl⟩) | (go_at_call 25; with_reducible refine (HSn.out _).mono ?_; rintro e w' ⟨rfl, rfl⟩))
      all_goals first | (go_ret2; exact ⟨rfl, rfl⟩) | (exfalso; simp_all; done) | (exfalso; simp_all; omega)
set_option maxRecDepth 100000 in
set_option maxHeartbeats 400000 in
theorem ctimes_other (a n : Int) (ha : inR a) (hn : inR n) (hs : ¬ (a < 0 ↔ n < 0)) (w : World) :
    Calls Tryd.prog 12 #[.int .i64 a, .int .i64 n] w fun e w' => e = .returned (.tuple #[.int .i64 (sumV (a * n)), .int .i64 (sumE (a * n))]) ∧ w = w' := by
  obtain ⟨hi, h1⟩ : ∃ hi, a.natAbs * n.natAbs / 18446744073709551616 = hi := ⟨_, rfl⟩
  obtain ⟨lo, h2⟩ : ∃ lo, a.natAbs * n.natAbs % 18446744073709551616 = lo := ⟨_, rfl⟩
  have hp0 := (prod_parts a n hi lo h1 h2).2 hs
  have hlo : lo < 18446744073709551616 := by omega
  have xA : a.natAbs ≤ 9223372036854775808 := by unfold inR at ha; omega
  have xN : n.natAbs ≤ 9223372036854775808 := by unfold inR at hn; omega
  obtain ⟨A, hA⟩ : ∃ A, a.natAbs = A := ⟨_, rfl⟩
  obtain ⟨N, hN⟩ : ∃ N, n.natAbs = N := ⟨_, rfl⟩
  rw [hA] at h1 h2 xA
  rw [hN] at h1 h2 xN
  have HSa := hide (fun W => size_at a A ha hA W)
  have HSn := hide (fun W => size_at n N hn hN W)
  have hg : (a < 0 ∧ ¬ n < 0) ∨ (¬ a < 0 ∧ n < 0) := by
    by_cases g : a < 0
    · exact .inl ⟨g, fun k => hs ⟨fun _ => k, fun _ => g⟩⟩
    · exact .inr ⟨g, Decidable.byContradiction fun k => hs ⟨fun x => absurd x g, fun x => absurd x k⟩⟩
  clear ha hn hA hN hs
  by_cases g1 : hi = 0
  · subst g1
    have HM := hide (show ∀ W, Calls Tryd.prog 24 #[.int .u64 (A : Int), .int .u64 (N : Int)] W fun e w' => e = .returned (.tuple #[.int .u64 0, .int .u64 (lo : Int)]) ∧ W = w' from fun W => mul_any _ _ 0 lo xA xN h1 h2 W)
    have hp : a * n = -(lo : Int) := by omega
    clear xA xN h1 h2 hp0
    by_cases g2 : lo ≤ 9223372036854775807
    · have hin : inR (a * n) := by unfold inR; omega
      obtain ⟨v1, v2⟩ := sum_in hin
      rw [v1, v2]
      have HR := hide hp
      have g3 : (lo : Int) ≤ 9223372036854775807 := by omega
      clear hp hin v1 v2
      rcases hg with ⟨g4, g5⟩ | ⟨g4, g5⟩
      · have HL := hide hlo
        have HG := hide g2
        clear hlo g2
        go_enter Tryd.func12, Tryd.ntmps12
        go_wp2_with (first | (go_at_call 24; with_reducible refine (HM.out _).mono ?_; rintro e w' ⟨rfl, rfl⟩) | (go_at_call 25; with_reducible refine (HSa.out _).mono ?_; rintro e w' ⟨rfl, rfl⟩) | (go_at_call 25; with_reducible refine (HSn.out _).mono ?_; rintro e w' ⟨rfl, rfl⟩))
        all_goals first | (go_ret2; exact ⟨ret_two (by have := HR.out; have := HL.out; have := HG.out; first | (rw [IntKind.wrap_u64]; unfold wrap64; omega) | (unfold wrap64; omega) | omega) rfl, rfl⟩) | (exfalso; simp_all; done) | (exfalso; simp_all; omega)
      · have HL := hide hlo
        have HG := hide g2
        clear hlo g2
        go_enter Tryd.func12, Tryd.ntmps12
        go_wp2_with (first | (go_at_call 24; with_reducible refine (HM.out _).mono ?_; rintro e w' ⟨rfl, rfl⟩) | (go_at_call 25; with_reducible refine (HSa.out _).mono ?_; rintro e w' ⟨rfl, rfl⟩) | (go_at_call 25; with_reducible refine (HSn.out _).mono ?_; rintro e w' ⟨rfl, rfl⟩))
        all_goals first | (go_ret2; exact ⟨ret_two (by have := HR.out; have := HL.out; have := HG.out; first | (rw [IntKind.wrap_u64]; unfold wrap64; omega) | (unfold wrap64; omega) | omega) rfl, rfl⟩) | (exfalso; simp_all; done) | (exfalso; simp_all; omega)
    · by_cases g6 : lo = 9223372036854775808
      · subst g6
        have hin : inR (a * n) := by unfold inR; omega
        obtain ⟨v1, v2⟩ := sum_in hin
        rw [v1, v2]
        rw [hp]
        clear hp hin v1 v2 hlo g2
        rcases hg with ⟨g4, g5⟩ | ⟨g4, g5⟩
        · go_enter Tryd.func12, Tryd.ntmps12
          go_wp2_with (first | (go_at_call 24; with_reducible refine (HM.out _).mono ?_; rintro e w' ⟨rfl, rfl⟩) | (go_at_call 25; with_reducible refine (HSa.out _).mono ?_; rintro e w' ⟨rfl, rfl⟩) | (go_at_call 25; with_reducible refine (HSn.out _).mono ?_; rintro e w' ⟨rfl, rfl⟩))
          all_goals first | (go_ret2; exact ⟨ret_two (by first | rfl | decide | (rw [IntKind.wrap_u64]; unfold wrap64; omega) | (unfold wrap64; omega) | omega | simp) rfl, rfl⟩) | (exfalso; simp_all; done) | (exfalso; simp_all; omega)
        · go_enter Tryd.func12, Tryd.ntmps12
          go_wp2_with (first | (go_at_call 24; with_reducible refine (HM.out _).mono ?_; rintro e w' ⟨rfl, rfl⟩) | (go_at_call 25; with_reducible refine (HSa.out _).mono ?_; rintro e w' ⟨rfl, rfl⟩) | (go_at_call 25; with_reducible refine (HSn.out _).mono ?_; rintro e w' ⟨rfl, rfl⟩))
          all_goals first | (go_ret2; exact ⟨ret_two (by first | rfl | decide | (rw [IntKind.wrap_u64]; unfold wrap64; omega) | (unfold wrap64; omega) | omega | simp) rfl, rfl⟩) | (exfalso; simp_all; done) | (exfalso; simp_all; omega)
      · have hin : ¬ inR (a * n) := by unfold inR; omega
        obtain ⟨v1, v2⟩ := sum_out hin
        rw [v1, v2]
        have g3 : 9223372036854775807 < (lo : Int) := by omega
        have g7 : ¬ (lo : Int) = 9223372036854775808 := by omega
        clear hp hin v1 v2 hlo g2 g6
        rcases hg with ⟨g4, g5⟩ | ⟨g4, g5⟩
        · go_enter Tryd.func12, Tryd.ntmps12
          go_wp2_with (first | (go_at_call 24; with_reducible refine (HM.out _).mono ?_; rintro e w' ⟨rfl, rfl⟩) | (go_at_call 25; with_reducible refine (HSa.out _).mono ?_; rintro e w' ⟨rfl, rfl⟩) | (go_at_call 25; with_reducible refine (HSn.out _).mono ?_; rintro e w' ⟨rfl, rfl⟩))
          all_goals first | (go_ret2; exact ⟨rfl, rfl⟩) | (exfalso; simp_all; done) | (exfalso; simp_all; omega)
        · go_enter Tryd.func12, Tryd.ntmps12
          go_wp2_with (first | (go_at_call 24; with_reducible refine (HM.out _).mono ?_; rintro e w' ⟨rfl, rfl⟩) | (go_at_call 25; with_reducible refine (HSa.out _).mono ?_; rintro e w' ⟨rfl, rfl⟩) | (go_at_call 25; with_reducible refine (HSn.out _).mono ?_; rintro e w' ⟨rfl, rfl⟩))
          all_goals first | (go_ret2; exact ⟨rfl, rfl⟩) | (exfalso; simp_all; done) | (exfalso; simp_all; omega)
  · have HM := hide (show ∀ W, Calls Tryd.prog 24 #[.int .u64 (A : Int), .int .u64 (N : Int)] W fun e w' => e = .returned (.tuple #[.int .u64 (hi : Int), .int .u64 (lo : Int)]) ∧ W = w' from fun W => mul_any _ _ hi lo xA xN h1 h2 W)
    have hin : ¬ inR (a * n) := by unfold inR; omega
    obtain ⟨v1, v2⟩ := sum_out hin
    rw [v1, v2]
    have g3 : ¬ (hi : Int) = 0 := by omega
    clear hp0 hin v1 v2 hlo g1 xA xN h1 h2
    rcases hg with ⟨g4, g5⟩ | ⟨g4, g5⟩
    · go_enter Tryd.func12, Tryd.ntmps12
      go_wp2_with (first | (go_at_call 24; with_reducible refine (HM.out _).mono ?_; rintro e w' ⟨rfl, rfl⟩) | (go_at_call 25; with_reducible refine (HSa.out _).mono ?_; rintro e w' ⟨rfl, rfl⟩) | (go_at_call 25; with_reducible refine (HSn.out _).mono ?_; rintro e w' ⟨rfl, rfl⟩))
      all_goals first | (go_ret2; exact ⟨rfl, rfl⟩) | (exfalso; simp_all; done) | (exfalso; simp_all; omega)
    · go_enter Tryd.func12, Tryd.ntmps12
      go_wp2_with (first | (go_at_call 24; with_reducible refine (HM.out _).mono ?_; rintro e w' ⟨rfl, rfl⟩) | (go_at_call 25; with_reducible refine (HSa.out _).mono ?_; rintro e w' ⟨rfl, rfl⟩) | (go_at_call 25; with_reducible refine (HSn.out _).mono ?_; rintro e w' ⟨rfl, rfl⟩))
      all_goals first | (go_ret2; exact ⟨rfl, rfl⟩) | (exfalso; simp_all; done) | (exfalso; simp_all; omega)
theorem ctimes_any (a n : Int) (ha : inR a) (hn : inR n) (w : World) :
    Calls Tryd.prog 12 #[.int .i64 a, .int .i64 n] w fun e w' => e = .returned (.tuple #[.int .i64 (sumV (a * n)), .int .i64 (sumE (a * n))]) ∧ w = w' := by
  by_cases hs : a < 0 ↔ n < 0
  · exact ctimes_same a n ha hn hs w
  · exact ctimes_other a n ha hn hs w
end Go.Proofs.YtbfllpidnfcmpaaDoor
