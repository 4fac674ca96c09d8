/-
  Layer 3, the document's calls: Times by division.
-/
import Derived.Test.YtbfllpidnfcmpaaDoorCents2
namespace Go.Proofs.YtbfllpidnfcmpaaDoor
set_option linter.unusedSimpArgs false
set_option linter.unusedVariables false
open Go.RowKit Go.WideShapes Go.ChangeShapes Go.ChangeAt

theorem sum_zero0 : sumV 0 = 0 ∧ sumE 0 = 0 := sum_in (show inR 0 by unfold inR; omega)
theorem wrap64_rng (s : Int) : -9223372036854775808 ≤ wrap64 s ∧ wrap64 s ≤ 9223372036854775807 := by unfold wrap64; omega
theorem wrap64_in {s : Int} (h : inR s) : wrap64 s = s := by unfold inR at h; unfold wrap64; omega
theorem tdiv_back (p n : Int) : p = n * p.tdiv n + p.tmod n := (Int.mul_tdiv_add_tmod p n).symm

set_option maxRecDepth 100000 in
set_option maxHeartbeats 400000 in
theorem rtimes_any (a n : Int) (ha : inR a) (hn : inR n) (w : World) :
    Calls Tryd.prog 13 #[.int .i64 a, .int .i64 n] w fun e w' => e = .returned (.tuple #[.int .i64 (sumV (a * n)), .int .i64 (sumE (a * n))]) ∧ w = w' := by
  by_cases a0 : a = 0
  · subst a0
    have E := hide (show sumV (0 * n) = 0 ∧ sumE (0 * n) = 0 by rw [Int.zero_mul]; exact sum_zero0)
    clear ha hn
    go_enter Tryd.func13, Tryd.ntmps13
    go_wp2_with fail
    go_ret2
    exact ⟨ret_two E.out.1.symm E.out.2.symm, rfl⟩
  by_cases n0 : n = 0
  · subst n0
    have E := hide (show sumV (a * 0) = 0 ∧ sumE (a * 0) = 0 by rw [Int.mul_zero]; exact sum_zero0)
    clear ha hn
    go_enter Tryd.func13, Tryd.ntmps13
    go_wp2_with fail
    go_ret2
    exact ⟨ret_two E.out.1.symm E.out.2.symm, rfl⟩
  by_cases s1 : a = -9223372036854775808 ∧ n = -1
  · obtain ⟨rfl, rfl⟩ := s1
    have E := hide (sum_out (show ¬ inR (-9223372036854775808 * -1) by unfold inR; omega))
    clear ha hn a0 n0
    go_enter Tryd.func13, Tryd.ntmps13
    go_wp2_with fail
    go_ret2
    exact ⟨ret_two E.out.1.symm E.out.2.symm, rfl⟩
  by_cases s2 : n = -9223372036854775808 ∧ a = -1
  · obtain ⟨rfl, rfl⟩ := s2
    have E := hide (sum_out (show ¬ inR (-1 * -9223372036854775808) by unfold inR; omega))
    clear ha hn a0 n0 s1
    go_enter Tryd.func13, Tryd.ntmps13
    go_wp2_with fail
    go_ret2
    exact ⟨ret_two E.out.1.symm E.out.2.symm, rfl⟩
  obtain ⟨p, hp⟩ : ∃ p, wrap64 (a * n) = p := ⟨_, rfl⟩
  obtain ⟨q, hq⟩ : ∃ q, wrap64 (p.tdiv n) = q := ⟨_, rfl⟩
  obtain ⟨r, hr⟩ : ∃ r, p.tmod n = r := ⟨_, rfl⟩
  have S1 := hide s1
  have S2 := hide s2
  by_cases hin : inR (a * n)
  · have hpa : p = a * n := by rw [← hp]; exact wrap64_in hin
    have hqa : q = a := by rw [← hq, hpa, Int.mul_tdiv_cancel a n0]; exact wrap64_in ha
    have hr0 : r = 0 := by rw [← hr, hpa, Int.mul_tmod_left]
    obtain ⟨v1, v2⟩ := sum_in hin
    have E := hide (show sumV (a * n) = p ∧ sumE (a * n) = 0 from ⟨v1.trans hpa.symm, v2⟩)
    clear ha hn s1 s2 hin hpa v1 v2
    rw [hqa] at hq
    subst hr0
    clear hqa
    by_cases u1 : a = -9223372036854775808
    · have u3 : ¬ n = -1 := fun h => S1.out ⟨u1, h⟩
      subst u1
      by_cases u2 : n = -9223372036854775808
      · subst u2
        have hp1 : wrap64 85070591730234615865843651857942052864 = p := hp
        have hq1 : wrap64 (-(p.tdiv 9223372036854775808)) = -9223372036854775808 := by rw [← Int.tdiv_neg]; exact hq
        have hr1 : p.tmod 9223372036854775808 = 0 := by rw [← Int.tmod_neg]; exact hr
        clear hp hq hr
        go_enter Tryd.func13, Tryd.ntmps13
        go_wp2_with fail
        all_goals first | (go_ret2; exact ⟨ret_two E.out.1.symm E.out.2.symm, rfl⟩) | (go_ret2; exact ⟨ret_two (hp.trans E.out.1.symm) E.out.2.symm, rfl⟩) | (go_ret2; exact ⟨ret_two (hp1.trans E.out.1.symm) E.out.2.symm, rfl⟩) | (exfalso; simp_all; done) | (exfalso; omega)
      · clear S1 S2
        go_enter Tryd.func13, Tryd.ntmps13
        go_wp2_with fail
        all_goals first | (go_ret2; exact ⟨ret_two E.out.1.symm E.out.2.symm, rfl⟩) | (go_ret2; exact ⟨ret_two (hp.trans E.out.1.symm) E.out.2.symm, rfl⟩) | (go_ret2; exact ⟨ret_two (hp1.trans E.out.1.symm) E.out.2.symm, rfl⟩) | (exfalso; simp_all; done) | (exfalso; omega)
    · by_cases u2 : n = -9223372036854775808
      · have u4 : ¬ a = -1 := fun h => S2.out ⟨u2, h⟩
        subst u2
        have hq1 : wrap64 (-(p.tdiv 9223372036854775808)) = a := by rw [← Int.tdiv_neg]; exact hq
        have hr1 : p.tmod 9223372036854775808 = 0 := by rw [← Int.tmod_neg]; exact hr
        clear hq hr
        go_enter Tryd.func13, Tryd.ntmps13
        go_wp2_with fail
        all_goals first | (go_ret2; exact ⟨ret_two E.out.1.symm E.out.2.symm, rfl⟩) | (go_ret2; exact ⟨ret_two (hp.trans E.out.1.symm) E.out.2.symm, rfl⟩) | (go_ret2; exact ⟨ret_two (hp1.trans E.out.1.symm) E.out.2.symm, rfl⟩) | (exfalso; simp_all; done) | (exfalso; omega)
      · clear S1 S2
        go_enter Tryd.func13, Tryd.ntmps13
        go_wp2_with fail
        all_goals first | (go_ret2; exact ⟨ret_two E.out.1.symm E.out.2.symm, rfl⟩) | (go_ret2; exact ⟨ret_two (hp.trans E.out.1.symm) E.out.2.symm, rfl⟩) | (go_ret2; exact ⟨ret_two (hp1.trans E.out.1.symm) E.out.2.symm, rfl⟩) | (exfalso; simp_all; done) | (exfalso; omega)
  · have E := hide (sum_out hin)
    by_cases hqa : q = a
    · have hr0 : ¬ r = 0 := by
        intro h
        apply hin
        have hb := tdiv_back p n
        rw [hr, h] at hb
        have hpr := wrap64_rng (a * n)
        rw [hp] at hpr
        have hle := Int.natAbs_tdiv_le_natAbs p n
        by_cases k : inR (p.tdiv n)
        · rw [wrap64_in k] at hq
          rw [hq, hqa, Int.mul_comm, Int.add_zero] at hb
          rw [← hb]
          exact hpr
        · exfalso
          generalize p.tdiv n = t at *
          have ht : t = 9223372036854775808 := by unfold inR at k; omega
          subst ht
          have hn1 : n = -1 := by omega
          have hq2 : q = -9223372036854775808 := by rw [← hq]; unfold wrap64; omega
          exact s1 ⟨hqa.symm.trans hq2, hn1⟩
      clear ha hn s1 s2 hin
      rw [hqa] at hq
      clear hqa
      by_cases u1 : a = -9223372036854775808
      · have u3 : ¬ n = -1 := fun h => S1.out ⟨u1, h⟩
        subst u1
        by_cases u2 : n = -9223372036854775808
        · subst u2
          have hp1 : wrap64 85070591730234615865843651857942052864 = p := hp
          have hq1 : wrap64 (-(p.tdiv 9223372036854775808)) = -9223372036854775808 := by rw [← Int.tdiv_neg]; exact hq
          have hr1 : p.tmod 9223372036854775808 = r := by rw [← Int.tmod_neg]; exact hr
          clear hp hq hr
          go_enter Tryd.func13, Tryd.ntmps13
          go_wp2_with fail
          all_goals first | (go_ret2; exact ⟨ret_two E.out.1.symm E.out.2.symm, rfl⟩) | (go_ret2; exact ⟨ret_two (hp.trans E.out.1.symm) E.out.2.symm, rfl⟩) | (go_ret2; exact ⟨ret_two (hp1.trans E.out.1.symm) E.out.2.symm, rfl⟩) | (exfalso; simp_all; done) | (exfalso; omega)
        · clear S1 S2
          go_enter Tryd.func13, Tryd.ntmps13
          go_wp2_with fail
          all_goals first | (go_ret2; exact ⟨ret_two E.out.1.symm E.out.2.symm, rfl⟩) | (go_ret2; exact ⟨ret_two (hp.trans E.out.1.symm) E.out.2.symm, rfl⟩) | (go_ret2; exact ⟨ret_two (hp1.trans E.out.1.symm) E.out.2.symm, rfl⟩) | (exfalso; simp_all; done) | (exfalso; omega)
      · by_cases u2 : n = -9223372036854775808
        · have u4 : ¬ a = -1 := fun h => S2.out ⟨u2, h⟩
          subst u2
          have hq1 : wrap64 (-(p.tdiv 9223372036854775808)) = a := by rw [← Int.tdiv_neg]; exact hq
          have hr1 : p.tmod 9223372036854775808 = r := by rw [← Int.tmod_neg]; exact hr
          clear hq hr
          go_enter Tryd.func13, Tryd.ntmps13
          go_wp2_with fail
          all_goals first | (go_ret2; exact ⟨ret_two E.out.1.symm E.out.2.symm, rfl⟩) | (go_ret2; exact ⟨ret_two (hp.trans E.out.1.symm) E.out.2.symm, rfl⟩) | (go_ret2; exact ⟨ret_two (hp1.trans E.out.1.symm) E.out.2.symm, rfl⟩) | (exfalso; simp_all; done) | (exfalso; omega)
        · clear S1 S2
          go_enter Tryd.func13, Tryd.ntmps13
          go_wp2_with fail
          all_goals first | (go_ret2; exact ⟨ret_two E.out.1.symm E.out.2.symm, rfl⟩) | (go_ret2; exact ⟨ret_two (hp.trans E.out.1.symm) E.out.2.symm, rfl⟩) | (go_ret2; exact ⟨ret_two (hp1.trans E.out.1.symm) E.out.2.symm, rfl⟩) | (exfalso; simp_all; done) | (exfalso; omega)
    · clear ha hn s1 s2 hin
      by_cases u1 : a = -9223372036854775808
      · have u3 : ¬ n = -1 := fun h => S1.out ⟨u1, h⟩
        subst u1
        by_cases u2 : n = -9223372036854775808
        · subst u2
          have hp1 : wrap64 85070591730234615865843651857942052864 = p := hp
          have hq1 : wrap64 (-(p.tdiv 9223372036854775808)) = q := by rw [← Int.tdiv_neg]; exact hq
          have hr1 : p.tmod 9223372036854775808 = r := by rw [← Int.tmod_neg]; exact hr
          clear hp hq hr
          go_enter Tryd.func13, Tryd.ntmps13
          go_wp2_with fail
          all_goals first | (go_ret2; exact ⟨ret_two E.out.1.symm E.out.2.symm, rfl⟩) | (go_ret2; exact ⟨ret_two (hp.trans E.out.1.symm) E.out.2.symm, rfl⟩) | (go_ret2; exact ⟨ret_two (hp1.trans E.out.1.symm) E.out.2.symm, rfl⟩) | (exfalso; simp_all; done) | (exfalso; omega)
        · clear S1 S2
          go_enter Tryd.func13, Tryd.ntmps13
          go_wp2_with fail
          all_goals first | (go_ret2; exact ⟨ret_two E.out.1.symm E.out.2.symm, rfl⟩) | (go_ret2; exact ⟨ret_two (hp.trans E.out.1.symm) E.out.2.symm, rfl⟩) | (go_ret2; exact ⟨ret_two (hp1.trans E.out.1.symm) E.out.2.symm, rfl⟩) | (exfalso; simp_all; done) | (exfalso; omega)
      · by_cases u2 : n = -9223372036854775808
        · have u4 : ¬ a = -1 := fun h => S2.out ⟨u2, h⟩
          subst u2
          have hq1 : wrap64 (-(p.tdiv 9223372036854775808)) = q := by rw [← Int.tdiv_neg]; exact hq
          have hr1 : p.tmod 9223372036854775808 = r := by rw [← Int.tmod_neg]; exact hr
          clear hq hr
          go_enter Tryd.func13, Tryd.ntmps13
          go_wp2_with fail
          all_goals first | (go_ret2; exact ⟨ret_two E.out.1.symm E.out.2.symm, rfl⟩) | (go_ret2; exact ⟨ret_two (hp.trans E.out.1.symm) E.out.2.symm, rfl⟩) | (go_ret2; exact ⟨ret_two (hp1.trans E.out.1.symm) E.out.2.symm, rfl⟩) | (exfalso; simp_all; done) | (exfalso; omega)
        · clear S1 S2
          go_enter Tryd.func13, Tryd.ntmps13
          go_wp2_with fail
          all_goals first | (go_ret2; exact ⟨ret_two E.out.1.symm E.out.2.symm, rfl⟩) | (go_ret2; exact ⟨ret_two (hp.trans E.out.1.symm) E.out.2.symm, rfl⟩) | (go_ret2; exact ⟨ret_two (hp1.trans E.out.1.symm) E.out.2.symm, rfl⟩) | (exfalso; simp_all; done) | (exfalso; omega)
end Go.Proofs.YtbfllpidnfcmpaaDoor
