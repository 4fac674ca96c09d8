/-
  Layer 7: the statements: each law returns true at every input.
-/
import Derived.Test.YtmhpnlfjonfghaaGeo3
namespace Go.Proofs.Ytmhpnlfjonfghaa
set_option linter.unusedSimpArgs false
set_option linter.unusedVariables false
open Go.RowKit Go.WideShapes Go.ChangeShapes Go.ChangeAt

theorem of7 (b p s sp lo ba le : Int) (w : World) :
    Calls Try.prog 7 #[.agg (conf b p s sp lo ba le)] w fun e w' => e = .returned (.agg (conf b p s sp lo ba le)) ∧ Below w.heap.size w w' := by
  unfold conf
  go_enter Try.func7, Try.ntmps7
  go_wp2
  refine bodyPost_ret (v := .agg #[.int .i64 b, .int .i64 p, .int .i64 s, .int .i64 sp, .int .i64 lo, .int .i64 ba, .int .i64 le]) (by simp [results, Try.results7, go_sem]) rfl ⟨rfl, ?_⟩
  go_grown

theorem wakes7 (w : World) : Calls Try.prog 8 #[] w fun e w' => e = .returned (.bool true) ∧ Below w.heap.size w w' := by
  have p1 := fun W => each_any 8 4 64 W
  rw [show eachZ 8 4 64 = 3 by decide] at p1
  have p2 := fun W => room_any 8 4 64 0 W
  rw [show roomZ 8 4 64 0 = 4 by decide] at p2
  have p3 := fun W => check_any 8 4 64 0 2 2 3 W
  rw [show checkZ 8 4 64 0 2 2 3 = 0 by decide] at p3
  have p4 := fun W => check_any 8 4 64 0 3 2 3 W
  rw [show checkZ 8 4 64 0 3 2 3 = 2 by decide] at p4
  have p5 := fun W => work_any 8 4 64 0 2 2 3 W
  rw [show workZ 8 4 64 0 2 2 3 = 112 by decide] at p5
  unfold conf at *
  have P1 := hide p1
  have P2 := hide p2
  have P3 := hide p3
  have P4 := hide p4
  have P5 := hide p5
  clear p1 p2 p3 p4 p5
  go_enter Try.func8, Try.ntmps8
  go_wp2_with fail
  refine (P1.out _).mono ?_
  rintro e w1 ⟨rfl, hb⟩
  obtain ⟨hc, hf⟩ := bcell hb
  go_wp2_with fail
  refine (P2.out _).mono ?_
  rintro e w2 ⟨rfl, hb'⟩
  replace hb := below_trans hb hb'
  clear hc hf hb'
  obtain ⟨hc, hf⟩ := bcell hb
  go_wp2_with fail
  refine (P3.out _).mono ?_
  rintro e w3 ⟨rfl, hb'⟩
  replace hb := below_trans hb hb'
  clear hc hf hb'
  obtain ⟨hc, hf⟩ := bcell hb
  go_wp2_with fail
  refine (P4.out _).mono ?_
  rintro e w4 ⟨rfl, hb'⟩
  replace hb := below_trans hb hb'
  clear hc hf hb'
  obtain ⟨hc, hf⟩ := bcell hb
  go_wp2_with fail
  refine (P5.out _).mono ?_
  rintro e w5 ⟨rfl, hb'⟩
  replace hb := below_trans hb hb'
  clear hc hf hb'
  obtain ⟨hc, hf⟩ := bcell hb
  go_wp2
  go_ret
  exact ⟨rfl, ((((Below.refl _ _).alloc (Nat.le_refl _) _).alloc (by simp) _).alloc (by simp; omega) _).trans (hb.mono (by simp; omega))⟩
end Go.Proofs.Ytmhpnlfjonfghaa
