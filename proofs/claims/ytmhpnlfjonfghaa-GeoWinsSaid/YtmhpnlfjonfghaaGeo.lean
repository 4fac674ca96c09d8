/-
  Layer 7, the program's calls: Right, Each, Room, Check, Work by contracts.
-/
import Derived.Test.YtmhpnlfjonfghaaKitB
import Derived.Deep.RegionHeld3
namespace Go.Proofs.Ytmhpnlfjonfghaa
set_option linter.unusedSimpArgs false
set_option linter.unusedVariables false
open Go.RowKit

/-- which shapes may be -/
def rightB (b p s : Int) : Bool := decide (4 ≤ b ∧ b ≤ 256 ∧ 2 ≤ p ∧ p ≤ 64 ∧ 32 ≤ s ∧ s ≤ 1024)
theorem right_iff {b p s : Int} : rightB b p s = true ↔ (4 ≤ b ∧ b ≤ 256 ∧ 2 ≤ p ∧ p ≤ 64 ∧ 32 ≤ s ∧ s ≤ 1024) := by simp [rightB]
theorem right_iff0 {b p s : Int} : rightB b p s = false ↔ ¬ (4 ≤ b ∧ b ≤ 256 ∧ 2 ≤ p ∧ p ≤ 64 ∧ 32 ≤ s ∧ s ≤ 1024) := by simp only [rightB, decide_eq_false_iff_not]

theorem shapeRight_any (b p s : Int) (w : World) :
    Calls Try.prog 13 #[.agg #[.int .i64 b, .int .i64 p, .int .i64 s]] w fun e w' => e = .returned (.bool (rightB b p s)) ∧ Below w.heap.size w w' := by
  go_enter Try.func13, Try.ntmps13
  go_wp2
  all_goals
    go_ret
    refine ⟨ret_bb ?_, by go_grown⟩
    first | (rw [Bool.eq_iff_iff, right_iff]; simp; omega) | (rw [eq_comm, right_iff0]; omega)
theorem refRight_any (b p s : Int) (w : World) :
    Calls Try.prog 18 #[.int .i64 b, .int .i64 p, .int .i64 s] w fun e w' => e = .returned (.bool (rightB b p s)) ∧ w = w' := by
  go_enter Try.func18, Try.ntmps18
  go_wp2
  all_goals
    go_ret
    refine ⟨ret_bb ?_, rfl⟩
    first | (rw [Bool.eq_iff_iff, right_iff]; simp; omega) | (rw [eq_comm, right_iff0]; omega)
theorem within_any (n a b : Int) (w : World) :
    Calls Try.prog 17 #[.int .i64 n, .int .i64 a, .int .i64 b] w fun e w' => e = .returned (.bool (decide (a ≤ n ∧ n ≤ b))) ∧ w = w' := by
  go_enter Try.func17, Try.ntmps17
  go_wp2
  all_goals
    go_ret
    refine ⟨ret_bb ?_, rfl⟩
    first | (rw [Bool.eq_iff_iff]; simp; omega) | (rw [eq_comm, decide_eq_false_iff_not]; omega)

/-- how many logical pages a block has room for -/
def eachZ (b p s : Int) : Int := if rightB b p s = true then p - 1 else 0
theorem each_any (b p s : Int) (w : World) :
    Calls Try.prog 16 #[.agg #[.int .i64 b, .int .i64 p, .int .i64 s]] w fun e w' => e = .returned (.int .i64 (eachZ b p s)) ∧ Below w.heap.size w w' := by
  by_cases hr : rightB b p s = true
  · obtain ⟨_, _, p2, p64, _, _⟩ := right_iff.1 hr
    have h := fun W => shapeRight_any b p s W
    rw [hr] at h
    have H := hide h
    have hz := hide (show eachZ b p s = p - 1 from if_pos hr)
    clear h hr
    go_enter Try.func16, Try.ntmps16
    go_wp2_with (go_at_call 13; ((with_reducible refine (H.out _).mono ?_); rintro e w1 ⟨rfl, hb1⟩; obtain ⟨hc1, hf1⟩ := bcell hb1))
    go_ret
    exact ⟨ret_int hz.out.symm, below_box hb1⟩
  · have hr : rightB b p s = false := by simpa using hr
    have h := fun W => shapeRight_any b p s W
    rw [hr] at h
    have H := hide h
    have hz := hide (show eachZ b p s = 0 from if_neg (by simp [hr]))
    clear h hr
    go_enter Try.func16, Try.ntmps16
    go_wp2_with (go_at_call 13; ((with_reducible refine (H.out _).mono ?_); rintro e w1 ⟨rfl, hb1⟩; obtain ⟨hc1, hf1⟩ := bcell hb1))
    go_ret
    exact ⟨ret_int hz.out.symm, below_box hb1⟩

/-- how many logical pages may be live at once -/
def roomZ (b p s sp : Int) : Int := if rightB b p s = true ∧ 0 ≤ sp ∧ sp ≤ b - 7 then (b - 6 - sp) * (p - 2) else 0
theorem roomZ_bd (b p s sp : Int) : 0 ≤ roomZ b p s sp ∧ roomZ b p s sp ≤ 15500 := by
  unfold roomZ
  split
  · rename_i h
    obtain ⟨hr, h0, h1⟩ := h
    obtain ⟨_, b2, p2, p64, _, _⟩ := right_iff.1 hr
    have e1 : 0 ≤ (b - 6 - sp) * (p - 2) := Int.mul_nonneg (by omega) (by omega)
    have e2 : (b - 6 - sp) * (p - 2) ≤ 250 * (p - 2) := Int.mul_le_mul_of_nonneg_right (by omega) (by omega)
    omega
  · omega
theorem room_any (b p s sp : Int) (w : World) :
    Calls Try.prog 14 #[.agg #[.int .i64 b, .int .i64 p, .int .i64 s], .int .i64 sp] w fun e w' => e = .returned (.int .i64 (roomZ b p s sp)) ∧ Below w.heap.size w w' := by
  by_cases hr : rightB b p s = true
  · obtain ⟨_, b2, p2, p64, _, _⟩ := right_iff.1 hr
    have h := fun W => shapeRight_any b p s W
    rw [hr] at h
    have H := hide h
    by_cases hsp : 0 ≤ sp ∧ sp ≤ b
    · obtain ⟨s0, s1⟩ := hsp
      by_cases hn : sp ≤ b - 7
      · have hz := hide (show (b - 6 - sp) * (p - 2) = roomZ b p s sp from (if_pos ⟨hr, s0, hn⟩).symm)
        have hm1 : 0 ≤ (b - 6 - sp) * (p - 2) := by rw [hz.out]; exact (roomZ_bd b p s sp).1
        have hm2 : (b - 6 - sp) * (p - 2) ≤ 15500 := by rw [hz.out]; exact (roomZ_bd b p s sp).2
        clear h hr
        go_enter Try.func14, Try.ntmps14
        go_wp2_with (go_at_call 13; ((with_reducible refine (H.out _).mono ?_); rintro e w1 ⟨rfl, hb1⟩; obtain ⟨hc1, hf1⟩ := bcell hb1))
        go_ret
        refine ⟨ret_int ?_, below_box hb1⟩
        rw [show b - 2 - sp - 3 - 1 = b - 6 - sp by omega]
        have := hz.out
        unfold wrap64; omega
      · have hz := hide (show roomZ b p s sp = 0 from if_neg (by omega))
        have hx : max (b - 2 - sp - 3 - 1) 0 = 0 := by omega
        clear h hr
        go_enter Try.func14, Try.ntmps14
        go_wp2_with (go_at_call 13; ((with_reducible refine (H.out _).mono ?_); rintro e w1 ⟨rfl, hb1⟩; obtain ⟨hc1, hf1⟩ := bcell hb1))
        all_goals
          go_ret
          refine ⟨ret_int ?_, below_box hb1⟩
          rw [hz.out]
          first | rfl | (simp [wrap64]; done) | (rw [show b - 2 - sp - 3 - 1 = 0 by omega]; simp [wrap64]; done)
    · have hz := hide (show roomZ b p s sp = 0 from if_neg (by omega))
      clear h hr
      by_cases hs0 : sp < 0
      · go_enter Try.func14, Try.ntmps14
        go_wp2_with (go_at_call 13; ((with_reducible refine (H.out _).mono ?_); rintro e w1 ⟨rfl, hb1⟩; obtain ⟨hc1, hf1⟩ := bcell hb1))
        go_ret
        exact ⟨ret_int hz.out.symm, below_box hb1⟩
      · have hs1 : b < sp := by omega
        go_enter Try.func14, Try.ntmps14
        go_wp2_with (go_at_call 13; ((with_reducible refine (H.out _).mono ?_); rintro e w1 ⟨rfl, hb1⟩; obtain ⟨hc1, hf1⟩ := bcell hb1))
        go_ret
        exact ⟨ret_int hz.out.symm, below_box hb1⟩
  · have hr : rightB b p s = false := by simpa using hr
    have h := fun W => shapeRight_any b p s W
    rw [hr] at h
    have H := hide h
    have hz := hide (show roomZ b p s sp = 0 from if_neg (by simp [hr]))
    clear h hr
    go_enter Try.func14, Try.ntmps14
    go_wp2_with (go_at_call 13; ((with_reducible refine (H.out _).mono ?_); rintro e w1 ⟨rfl, hb1⟩; obtain ⟨hc1, hf1⟩ := bcell hb1))
    go_ret
    exact ⟨ret_int hz.out.symm, below_box hb1⟩
theorem refRoom_any (b p s sp : Int) (w : World) :
    Calls Try.prog 15 #[.int .i64 b, .int .i64 p, .int .i64 s, .int .i64 sp] w fun e w' => e = .returned (.int .i64 (roomZ b p s sp)) ∧ w = w' := by
  by_cases hr : rightB b p s = true
  · obtain ⟨_, b2, p2, p64, _, _⟩ := right_iff.1 hr
    have h := fun W => refRight_any b p s W
    rw [hr] at h
    have H := hide h
    by_cases hn : 0 ≤ sp ∧ sp ≤ b - 7 ∧ p ≠ 2
    · obtain ⟨s0, hn, hp⟩ := hn
      have hz := hide (show (b - 6 - sp) * (p - 2) = roomZ b p s sp from (if_pos ⟨hr, s0, hn⟩).symm)
      have hm1 : 0 ≤ (b - 6 - sp) * (p - 2) := by rw [hz.out]; exact (roomZ_bd b p s sp).1
      have hm2 : (b - 6 - sp) * (p - 2) ≤ 15500 := by rw [hz.out]; exact (roomZ_bd b p s sp).2
      clear h hr
      go_enter Try.func15, Try.ntmps15
      go_wp2_with (go_at_call 18; ((with_reducible refine (H.out _).mono ?_); rintro e w1 ⟨rfl, rfl⟩))
      all_goals
        go_ret
        refine ⟨ret_int ?_, rfl⟩
        first
          | (rw [show b - 2 - sp - 3 - 1 = b - 6 - sp by omega]
             have := hz.out
             unfold wrap64; omega)
          | (exfalso
             have h : b - 2 - sp - 3 - 1 < 1 ∨ (p == 2) = true := by assumption
             rcases h with h | h
             · omega
             · rw [beq_iff_eq] at h; omega)
    · have hz := hide (show roomZ b p s sp = 0 by
        unfold roomZ
        split
        · obtain rfl : p = 2 := by omega
          simp
        · rfl)
      clear h hr
      by_cases c1 : sp < 0
      · go_enter Try.func15, Try.ntmps15
        go_wp2_with (go_at_call 18; ((with_reducible refine (H.out _).mono ?_); rintro e w1 ⟨rfl, rfl⟩))
        all_goals
          go_ret
          exact ⟨ret_int hz.out.symm, rfl⟩
      by_cases c2 : 1000 < sp
      · go_enter Try.func15, Try.ntmps15
        go_wp2_with (go_at_call 18; ((with_reducible refine (H.out _).mono ?_); rintro e w1 ⟨rfl, rfl⟩))
        all_goals
          go_ret
          exact ⟨ret_int hz.out.symm, rfl⟩
      have c3 : b - 2 - sp - 3 - 1 < 1 ∨ p = 2 := by omega
      have c4 : 0 ≤ sp := by omega
      have c5 : sp ≤ 1000 := by omega
      clear hn
      rcases c3 with c3 | c3
      · go_enter Try.func15, Try.ntmps15
        go_wp2_with (go_at_call 18; ((with_reducible refine (H.out _).mono ?_); rintro e w1 ⟨rfl, rfl⟩))
        all_goals
          go_ret
          exact ⟨ret_int hz.out.symm, rfl⟩
      · subst c3
        go_enter Try.func15, Try.ntmps15
        go_wp2_with (go_at_call 18; ((with_reducible refine (H.out _).mono ?_); rintro e w1 ⟨rfl, rfl⟩))
        all_goals
          go_ret
          exact ⟨ret_int hz.out.symm, rfl⟩
  · have hr : rightB b p s = false := by simpa using hr
    have h := fun W => refRight_any b p s W
    rw [hr] at h
    have H := hide h
    have hz := hide (show roomZ b p s sp = 0 from if_neg (by simp [hr]))
    clear h hr
    go_enter Try.func15, Try.ntmps15
    go_wp2_with (go_at_call 18; ((with_reducible refine (H.out _).mono ?_); rintro e w1 ⟨rfl, rfl⟩))
    go_ret
    exact ⟨ret_int hz.out.symm, rfl⟩
end Go.Proofs.Ytmhpnlfjonfghaa
