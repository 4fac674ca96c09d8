/-
  Layer 5, the program's calls, tenth part: Shape; the document's Right.
-/
import Derived.Test.YthippbckjldijaaNand9
namespace Go.Proofs.Ythippbckjldijaa
set_option linter.unusedSimpArgs false
set_option linter.unusedVariables false
open Go.RowKit Go.WideShapes Go.ChangeShapes Go.ChangeAt Go.Deep

set_option maxRecDepth 100000 in
set_option maxHeartbeats 400000 in
theorem rright_any (b p s : Int) (w : World) :
    Calls Try.prog 24 #[.int .i64 b, .int .i64 p, .int .i64 s] w fun e w' => e = .returned (.bool (rightS b p s)) ∧ w = w' := by
  obtain ⟨r, hr⟩ : ∃ r, rightS b p s = r := ⟨_, rfl⟩
  rw [hr]
  by_cases h0 : (4 : Int) ≤ b
  · by_cases h1 : b ≤ (256 : Int)
    · by_cases h2 : (2 : Int) ≤ p
      · by_cases h3 : p ≤ (64 : Int)
        · by_cases h4 : (32 : Int) ≤ s
          · by_cases h5 : s ≤ (1024 : Int)
            · have HE := hide (show true = r by rw [← hr]; simp [rightS, h0, h1, h2, h3, h4, h5])
              clear hr
              go_enter Try.func24, Try.ntmps24
              go_wp2_with fail
              go_ret
              exact ⟨ret_bl HE.out, rfl⟩
            · have HE := hide (show false = r by rw [← hr]; simp [rightS, h0, h1, h2, h3, h4, h5])
              clear hr
              go_enter Try.func24, Try.ntmps24
              go_wp2_with fail
              go_ret
              exact ⟨ret_bl HE.out, rfl⟩
          · have HE := hide (show false = r by rw [← hr]; simp [rightS, h0, h1, h2, h3, h4])
            clear hr
            go_enter Try.func24, Try.ntmps24
            go_wp2_with fail
            go_ret
            exact ⟨ret_bl HE.out, rfl⟩
        · have HE := hide (show false = r by rw [← hr]; simp [rightS, h0, h1, h2, h3])
          clear hr
          go_enter Try.func24, Try.ntmps24
          go_wp2_with fail
          go_ret
          exact ⟨ret_bl HE.out, rfl⟩
      · have HE := hide (show false = r by rw [← hr]; simp [rightS, h0, h1, h2])
        clear hr
        go_enter Try.func24, Try.ntmps24
        go_wp2_with fail
        go_ret
        exact ⟨ret_bl HE.out, rfl⟩
    · have HE := hide (show false = r by rw [← hr]; simp [rightS, h0, h1])
      clear hr
      go_enter Try.func24, Try.ntmps24
      go_wp2_with fail
      go_ret
      exact ⟨ret_bl HE.out, rfl⟩
  · have HE := hide (show false = r by rw [← hr]; simp [rightS, h0])
    clear hr
    go_enter Try.func24, Try.ntmps24
    go_wp2_with fail
    go_ret
    exact ⟨ret_bl HE.out, rfl⟩
set_option maxRecDepth 100000 in
theorem shape_nil (w : World) : Calls Try.prog 11 #[.pointer none] w fun e w' => e = .returned (.agg #[.int .i64 0, .int .i64 0, .int .i64 0]) ∧ Below w.heap.size w w' := by
  go_enter Try.func11, Try.ntmps11
  go_wp2_with fail
  refine bodyPost_ret (v := .agg #[.int .i64 0, .int .i64 0, .int .i64 0]) ?_ rfl ⟨rfl, (Below.refl _ _).alloc (Nat.le_refl _) _⟩
  have z := heap_new w (.cells #[.int .i64 0, .int .i64 0, .int .i64 0] 26)
  have z0 := z
  have z1 := cell_of_block z0 0
  have z2 := cell_of_block z0 1
  have z3 := cell_of_block z0 2
  simp [results, Try.results11, go_sem, z1, z2, z3]
set_option maxRecDepth 100000 in
theorem shape_any (p q B : Nat) (G : Nat → Nat) (S : ChipM) (w : World) (h : NandAt w p q B G S) :
    Calls Try.prog 11 #[.pointer (some ⟨p, 0, none⟩)] w fun e w' => e = .returned (.agg #[.int .i64 (S.L.length : Int), .int .i64 (S.pgs : Int), .int .i64 (S.size : Int)]) ∧ Below w.heap.size w w' := by
  have c0 : w.cell? ⟨p, 0, none⟩ = some (.int .i64 (S.L.length : Int)) := h.cell 0
  have c1 : w.cell? ⟨p, 1, none⟩ = some (.int .i64 (S.pgs : Int)) := h.cell 1
  have c2 : w.cell? ⟨p, 2, none⟩ = some (.int .i64 (S.size : Int)) := h.cell 2
  have hpl := h.lt
  clear h
  go_enter Try.func11, Try.ntmps11
  go_wp2_with fail
  refine bodyPost_ret (v := .agg #[.int .i64 (S.L.length : Int), .int .i64 (S.pgs : Int), .int .i64 (S.size : Int)]) ?_ rfl ⟨rfl, (Below.refl _ _).alloc (Nat.le_refl _) _⟩
  have z0 := heap_new w (.cells #[.int .i64 (S.L.length : Int), .int .i64 (S.pgs : Int), .int .i64 (S.size : Int)] 26)
  have z1 := cell_of_block z0 0
  have z2 := cell_of_block z0 1
  have z3 := cell_of_block z0 2
  simp [results, Try.results11, go_sem, z1, z2, z3]
end Go.Proofs.Ythippbckjldijaa
