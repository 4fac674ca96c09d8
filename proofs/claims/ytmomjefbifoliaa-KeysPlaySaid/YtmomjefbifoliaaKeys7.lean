/-
  Layer 24, the program's calls: Put of an entry that may not be, Copy, New of a limit that may not be.
-/
import Derived.Test.YtmomjefbifoliaaKeys6
import Derived.Deep.RegionHeld3
--import Derived.Test.Zdbg
namespace Go.Proofs.Ytmomjefbifoliaa
set_option linter.unusedSimpArgs false
set_option linter.unusedVariables false
open Go.RowKit Go.WideShapes Go.ChangeShapes Go.ChangeAt

theorem new_no (n : Int) (h : n < 1 ∨ 64 < n) (w : World) :
    Calls Try.prog 6 #[.int .i64 n] w fun e w' => e = .returned (.tuple #[.pointer none, .int .i64 2]) ∧ w = w' := by
  rcases h with h | h
  · go_enter Try.func6, Try.ntmps6
    go_wp2_with fail
    go_ret2
    exact ⟨rfl, rfl⟩
  · have h1 : ¬ n < 1 := by omega
    go_enter Try.func6, Try.ntmps6
    go_wp2_with fail
    go_ret2
    exact ⟨rfl, rfl⟩
set_option maxRecDepth 100000 in
theorem eright_no (k n : Int) (b : ByteArray) (h : ¬ rightE ⟨k, b, n⟩) (w : World) :
    Calls Try.prog 19 #[.agg #[.int .u64 k, .string b, .int .i64 n]] w fun e w' => e = .returned (.bool false) ∧ Below w.heap.size w w' := by
  unfold rightE at h
  dsimp only at h
  by_cases h1 : (b.size : Int) ≤ 255
  · by_cases h2 : 1 ≤ n
    · have h3 : ¬ n ≤ 4294967295 := fun h3 => h ⟨by omega, h2, h3⟩
      clear h
      go_enter Try.func19, Try.ntmps19
      go_wp2_with fail
      go_ret
      exact ⟨rfl, (Below.refl _ _).alloc (Nat.le_refl _) _⟩
    · clear h
      go_enter Try.func19, Try.ntmps19
      go_wp2_with fail
      go_ret
      exact ⟨rfl, (Below.refl _ _).alloc (Nat.le_refl _) _⟩
  · clear h
    go_enter Try.func19, Try.ntmps19
    go_wp2_with fail
    go_ret
    exact ⟨rfl, (Below.refl _ _).alloc (Nat.le_refl _) _⟩
set_option maxRecDepth 100000 in
theorem put_bad (xk xn : Int) (xb : ByteArray) (hx : ¬ rightE ⟨xk, xb, xn⟩) (p : Nat) (w : World) :
    Calls Try.prog 10 #[.pointer (some ⟨p, 0, none⟩), .agg #[.int .u64 xk, .string xb, .int .i64 xn]] w fun e w' => e = .returned (.int .i64 2) ∧ Below w.heap.size w w' := by
  have HR := hide (fun W => eright_no xk xn xb hx W)
  have BL0 := hide ((Below.refl w.heap.size w).alloc (Nat.le_refl _) (.cells #[.int .u64 xk, .string xb, .int .i64 xn] 37))
  clear hx
  go_enter Try.func10, Try.ntmps10
  go_wp2_with fail
  generalize w.alloc (.cells #[.int .u64 xk, .string xb, .int .i64 xn] 37) = w1 at *
  refine (HR.out _).mono ?_
  rintro e w2 ⟨rfl, hb⟩
  have BL1 := hide (below_trans BL0.out hb)
  clear hb
  go_wp2_with fail
  go_ret
  exact ⟨rfl, BL1.out⟩
/-- another one with the same -/
def CopyIs (lim : Nat) (L : List Ent) (w : World) (e : Ending) (w' : World) : Prop := ∃ (p : Nat) (v : Value), e = .returned (.pointer (some ⟨p, 0, none⟩)) ∧ KeysAt w' p w.heap.size lim L v ∧ Below w.heap.size w w'
end Go.Proofs.Ytmomjefbifoliaa
