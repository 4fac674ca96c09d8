/-
  Layer 7: Check, Work and the document's answers by contracts.
-/
import Derived.Test.YtmhpnlfjonfghaaGeo2
namespace Go.Proofs.Ytmhpnlfjonfghaa
set_option linter.unusedSimpArgs false
set_option linter.unusedVariables false
open Go.RowKit
theorem check_any (b p s sp lo ba le : Int) (w : World) :
    Calls Try.prog 9 #[.agg (conf b p s sp lo ba le)] w fun e w' => e = .returned (.int .i64 (checkZ b p s sp lo ba le)) ∧ Below w.heap.size w w' := by
  have no : ∀ q : ¬ (checkB b p s sp lo ba le = true), checkZ b p s sp lo ba le = 2 := fun q => if_neg q
  by_cases c0 : rightB b p s = true
  case neg =>
    rw [no (by simp [checkB, c0])]; exact check_0 b p s sp lo ba le w c0
  by_cases c1 : 0 ≤ sp
  case neg =>
    rw [no (by simp [checkB]; omega)]; exact check_1 b p s sp lo ba le w c0 c1
  by_cases c2 : 1 ≤ lo ∧ lo ≤ 4096
  case neg =>
    rw [no (by simp only [checkB, decide_eq_true_eq]; rintro ⟨_, _, h, _⟩; exact c2 h)]; exact check_2 b p s sp lo ba le w c0 c1 c2
  by_cases c3 : 1 ≤ ba ∧ ba ≤ 64
  case neg =>
    rw [no (by simp only [checkB, decide_eq_true_eq]; rintro ⟨_, _, _, h, _⟩; exact c3 h)]; exact check_3 b p s sp lo ba le w c0 c1 c2 c3
  by_cases c4 : lo + ba ≤ roomZ b p s sp
  case neg =>
    rw [no (by simp only [checkB, decide_eq_true_eq]; rintro ⟨_, _, _, _, h, _⟩; exact c4 h)]; exact check_4 b p s sp lo ba le w c0 c1 c2 c3 c4
  by_cases c5 : 2 ≤ le ∧ le ≤ 1048576
  case neg =>
    rw [no (by simp only [checkB, decide_eq_true_eq]; rintro ⟨_, _, _, _, _, h, _⟩; exact c5 h)]; exact check_5 b p s sp lo ba le w c0 c1 c2 c3 c4 c5
  by_cases c6 : (b + 7) / 8 + 8 ≤ s
  case neg =>
    rw [no (by simp only [checkB, decide_eq_true_eq]; rintro ⟨_, _, _, _, _, _, h⟩; exact c6 h)]; exact check_6 b p s sp lo ba le w c0 c1 c2 c3 c4 c5 c6
  rw [show checkZ b p s sp lo ba le = 0 from if_pos (decide_eq_true ⟨c0, c1, c2, c3, c4, c5, c6⟩)]
  exact check_7 b p s sp lo ba le w c0 c1 c2 c3 c4 c5 c6

theorem checkZ_two {b p s sp lo ba le : Int} (h : ¬ (rightB b p s = true ∧ 0 ≤ sp ∧ (1 ≤ lo ∧ lo ≤ 4096) ∧ (1 ≤ ba ∧ ba ≤ 64) ∧ lo + ba ≤ roomZ b p s sp ∧ (2 ≤ le ∧ le ≤ 1048576) ∧ (b + 7) / 8 + 8 ≤ s)) : 2 = checkZ b p s sp lo ba le := by
  unfold checkZ checkB
  rw [if_neg (by simpa only [decide_eq_true_eq] using h)]
theorem checkZ_zero {b p s sp lo ba le : Int} (h : (rightB b p s = true ∧ 0 ≤ sp ∧ (1 ≤ lo ∧ lo ≤ 4096) ∧ (1 ≤ ba ∧ ba ≤ 64) ∧ lo + ba ≤ roomZ b p s sp ∧ (2 ≤ le ∧ le ≤ 1048576) ∧ (b + 7) / 8 + 8 ≤ s)) : 0 = checkZ b p s sp lo ba le := by
  unfold checkZ checkB
  rw [if_pos (by simpa only [decide_eq_true_eq] using h)]
set_option maxRecDepth 100000 in
set_option maxHeartbeats 1000000 in
theorem refCheck_any (b p s sp lo ba le : Int) (w : World) :
    Calls Try.prog 10 #[.agg (conf b p s sp lo ba le)] w fun e w' => e = .returned (.int .i64 (checkZ b p s sp lo ba le)) ∧ Below w.heap.size w w' := by
  have g1 := fun W => refRight_any b p s W
  have rb := roomZ_bd b p s sp
  by_cases hr : rightB b p s = true
  · obtain ⟨b4, b256, p2, p64, s32, s1024⟩ := right_iff.1 hr
    rw [hr] at g1
    have G1 := hide g1
    have HR := hide hr
    clear g1 hr
    have g2 := fun W => refRoom_any b p s sp W
    have cz := @checkZ_two b p s sp lo ba le
    have cz0 := @checkZ_zero b p s sp lo ba le
    have CZ := hide cz
    have CZ0 := hide cz0
    clear cz cz0
    generalize checkZ b p s sp lo ba le = Z at *
    generalize roomZ b p s sp = R at *
    have G2 := hide g2
    clear g2
    unfold conf
    go_enter Try.func10, Try.ntmps10
    go_wp2_with (first | (go_at_call 18; ((with_reducible refine (G1.out _).mono ?_); rintro e w' ⟨rfl, rfl⟩)) | (go_at_call 15; ((with_reducible refine (G2.out _).mono ?_); rintro e w' ⟨rfl, rfl⟩)))
    all_goals
      go_ret
      refine ⟨ret_int ?_, by go_grown⟩
      first
        | exact CZ.out (fun ⟨_, q1, q2, q3, q4, q5, q6⟩ => by omega)
        | exact CZ0.out ⟨HR.out, by omega, by omega, by omega, by omega, by omega, by omega⟩
        | (exfalso; omega)
  · have hr : rightB b p s = false := by simpa using hr
    rw [hr] at g1
    have G1 := hide g1
    have CZ := hide (checkZ_two (b := b) (p := p) (s := s) (sp := sp) (lo := lo) (ba := ba) (le := le) (by simp [hr]))
    clear g1 hr
    generalize checkZ b p s sp lo ba le = Z at *
    unfold conf
    go_enter Try.func10, Try.ntmps10
    go_wp2_with (go_at_call 18; ((with_reducible refine (G1.out _).mono ?_); rintro e w' ⟨rfl, rfl⟩))
    go_ret
    exact ⟨ret_int CZ.out, by go_grown⟩

/-- how much a batch may ask -/
def workZ (b p s sp lo ba le : Int) : Int := if checkB b p s sp lo ba le = true then 2 * p * (p + b) + 2 * p * ba else 0
theorem work_in {b p ba : Int} (b4 : 4 ≤ b) (b256 : b ≤ 256) (p2 : 2 ≤ p) (p64 : p ≤ 64) (a0 : 1 ≤ ba) (a1 : ba ≤ 64) :
    0 ≤ 2 * p * (p + b) ∧ 2 * p * (p + b) ≤ 40960 ∧ 0 ≤ 2 * p * ba ∧ 2 * p * ba ≤ 8192 := by
  have e1 : 0 ≤ 2 * p * (p + b) := Int.mul_nonneg (by omega) (by omega)
  have e2 : 2 * p * (p + b) ≤ 128 * (p + b) := Int.mul_le_mul_of_nonneg_right (by omega) (by omega)
  have e3 : 0 ≤ 2 * p * ba := Int.mul_nonneg (by omega) (by omega)
  have e4 : 2 * p * ba ≤ 128 * ba := Int.mul_le_mul_of_nonneg_right (by omega) (by omega)
  omega
theorem work_wrap {b p ba : Int} (b4 : 4 ≤ b) (b256 : b ≤ 256) (p2 : 2 ≤ p) (p64 : p ≤ 64) (a0 : 1 ≤ ba) (a1 : ba ≤ 64) :
    wrap64 (wrap64 (2 * p * (p + b)) + wrap64 (2 * p * ba)) = 2 * p * (p + b) + 2 * p * ba := by
  have := work_in b4 b256 p2 p64 a0 a1
  generalize 2 * p * (p + b) = x at *
  generalize 2 * p * ba = y at *
  unfold wrap64; omega
theorem work_any (b p s sp lo ba le : Int) (w : World) :
    Calls Try.prog 11 #[.agg (conf b p s sp lo ba le)] w fun e w' => e = .returned (.int .i64 (workZ b p s sp lo ba le)) ∧ Below w.heap.size w w' := by
  by_cases hc : checkB b p s sp lo ba le = true
  · obtain ⟨hr, s0, ⟨l0, l1⟩, ⟨a0, a1⟩, hroom, ⟨v0, v1⟩, hsz⟩ := of_decide_eq_true hc
    obtain ⟨b4, b256, p2, p64, s32, s1024⟩ := right_iff.1 hr
    have g1 := fun W => check_any b p s sp lo ba le W
    rw [show checkZ b p s sp lo ba le = 0 from if_pos hc] at g1
    have G1 := hide g1
    have CZ := hide (show 2 * p * (p + b) + 2 * p * ba = workZ b p s sp lo ba le from (if_pos hc).symm)
    clear g1 hc hr hroom hsz
    generalize workZ b p s sp lo ba le = Z at *
    unfold conf at *
    go_enter Try.func11, Try.ntmps11
    go_wp2_with (go_at_call 9; ((with_reducible refine (G1.out _).mono ?_); rintro e w1 ⟨rfl, hb1⟩; obtain ⟨hc1, hf1⟩ := bcell hb1))
    go_ret
    exact ⟨ret_int ((work_wrap b4 b256 p2 p64 a0 a1).trans CZ.out), below_box hb1⟩
  · have g1 := fun W => check_any b p s sp lo ba le W
    rw [show checkZ b p s sp lo ba le = 2 from if_neg hc] at g1
    have G1 := hide g1
    have CZ := hide (show 0 = workZ b p s sp lo ba le from (if_neg hc).symm)
    clear g1 hc
    generalize workZ b p s sp lo ba le = Z at *
    unfold conf at *
    go_enter Try.func11, Try.ntmps11
    go_wp2_with (go_at_call 9; ((with_reducible refine (G1.out _).mono ?_); rintro e w1 ⟨rfl, hb1⟩; obtain ⟨hc1, hf1⟩ := bcell hb1))
    go_ret
    exact ⟨ret_int CZ.out, below_box hb1⟩
theorem refWork_any (b p s sp lo ba le : Int) (w : World) :
    Calls Try.prog 12 #[.agg (conf b p s sp lo ba le)] w fun e w' => e = .returned (.int .i64 (workZ b p s sp lo ba le)) ∧ Below w.heap.size w w' := by
  by_cases hc : checkB b p s sp lo ba le = true
  · obtain ⟨hr, s0, ⟨l0, l1⟩, ⟨a0, a1⟩, hroom, ⟨v0, v1⟩, hsz⟩ := of_decide_eq_true hc
    obtain ⟨b4, b256, p2, p64, s32, s1024⟩ := right_iff.1 hr
    have g1 := fun W => refCheck_any b p s sp lo ba le W
    rw [show checkZ b p s sp lo ba le = 0 from if_pos hc] at g1
    have G1 := hide g1
    have CZ := hide (show 2 * p * (p + b) + 2 * p * ba = workZ b p s sp lo ba le from (if_pos hc).symm)
    clear g1 hc hr hroom hsz
    generalize workZ b p s sp lo ba le = Z at *
    unfold conf at *
    go_enter Try.func12, Try.ntmps12
    go_wp2_with (go_at_call 10; ((with_reducible refine (G1.out _).mono ?_); rintro e w1 ⟨rfl, hb1⟩; obtain ⟨hc1, hf1⟩ := bcell hb1))
    go_ret
    exact ⟨ret_int ((work_wrap b4 b256 p2 p64 a0 a1).trans CZ.out), below_box hb1⟩
  · have g1 := fun W => refCheck_any b p s sp lo ba le W
    rw [show checkZ b p s sp lo ba le = 2 from if_neg hc] at g1
    have G1 := hide g1
    have CZ := hide (show 0 = workZ b p s sp lo ba le from (if_neg hc).symm)
    clear g1 hc
    generalize workZ b p s sp lo ba le = Z at *
    unfold conf at *
    go_enter Try.func12, Try.ntmps12
    go_wp2_with (go_at_call 10; ((with_reducible refine (G1.out _).mono ?_); rintro e w1 ⟨rfl, hb1⟩; obtain ⟨hc1, hf1⟩ := bcell hb1))
    go_ret
    exact ⟨ret_int CZ.out, below_box hb1⟩
end Go.Proofs.Ytmhpnlfjonfghaa
