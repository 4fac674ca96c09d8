/-
  Layer 5, the program's calls, sixth part: Right, tornPage.
-/
import Derived.Test.YthippbckjldijaaNand5
import Derived.BigQuiet
namespace Go.Proofs.Ythippbckjldijaa
set_option linter.unusedSimpArgs false
set_option linter.unusedVariables false
open Go.RowKit Go.WideShapes Go.ChangeShapes Go.ChangeAt Go.Deep

def rightS (b p s : Int) : Bool := decide (4 ≤ b ∧ b ≤ 256 ∧ 2 ≤ p ∧ p ≤ 64 ∧ 32 ≤ s ∧ s ≤ 1024)
theorem ret_bl {a b : Bool} (h : a = b) : Ending.returned (.bool a) = .returned (.bool b) := by rw [h]
set_option maxRecDepth 100000 in
set_option maxHeartbeats 400000 in
theorem right_any (b p s : Int) (w : World) :
    Calls Try.prog 25 #[.agg #[.int .i64 b, .int .i64 p, .int .i64 s]] w fun e w' => e = .returned (.bool (rightS b p s)) ∧ Below w.heap.size w w' := by
  obtain ⟨r, hr⟩ : ∃ r, rightS b p s = r := ⟨_, rfl⟩
  rw [hr]
  by_cases h0 : (4 : Int) ≤ b
  · by_cases h1 : b ≤ (256 : Int)
    · by_cases h2 : (2 : Int) ≤ p
      · by_cases h3 : p ≤ (64 : Int)
        · by_cases h4 : (32 : Int) ≤ s
          · by_cases h5 : s ≤ (1024 : Int)
            · have HE := hide (show true = r by rw [← hr]; simp [rightS, h0, h1, h2, h3, h4, h5])
              clear hr
              go_enter Try.func25, Try.ntmps25
              go_wp2_with fail
              go_ret
              exact ⟨ret_bl HE.out, (Below.refl _ _).alloc (Nat.le_refl _) _⟩
            · have HE := hide (show false = r by rw [← hr]; simp [rightS, h0, h1, h2, h3, h4, h5])
              clear hr
              go_enter Try.func25, Try.ntmps25
              go_wp2_with fail
              go_ret
              exact ⟨ret_bl HE.out, (Below.refl _ _).alloc (Nat.le_refl _) _⟩
          · have HE := hide (show false = r by rw [← hr]; simp [rightS, h0, h1, h2, h3, h4])
            clear hr
            go_enter Try.func25, Try.ntmps25
            go_wp2_with fail
            go_ret
            exact ⟨ret_bl HE.out, (Below.refl _ _).alloc (Nat.le_refl _) _⟩
        · have HE := hide (show false = r by rw [← hr]; simp [rightS, h0, h1, h2, h3])
          clear hr
          go_enter Try.func25, Try.ntmps25
          go_wp2_with fail
          go_ret
          exact ⟨ret_bl HE.out, (Below.refl _ _).alloc (Nat.le_refl _) _⟩
      · have HE := hide (show false = r by rw [← hr]; simp [rightS, h0, h1, h2])
        clear hr
        go_enter Try.func25, Try.ntmps25
        go_wp2_with fail
        go_ret
        exact ⟨ret_bl HE.out, (Below.refl _ _).alloc (Nat.le_refl _) _⟩
    · have HE := hide (show false = r by rw [← hr]; simp [rightS, h0, h1])
      clear hr
      go_enter Try.func25, Try.ntmps25
      go_wp2_with fail
      go_ret
      exact ⟨ret_bl HE.out, (Below.refl _ _).alloc (Nat.le_refl _) _⟩
  · have HE := hide (show false = r by rw [← hr]; simp [rightS, h0])
    clear hr
    go_enter Try.func25, Try.ntmps25
    go_wp2_with fail
    go_ret
    exact ⟨ret_bl HE.out, (Below.refl _ _).alloc (Nat.le_refl _) _⟩
theorem str_ne5 {a b : ByteArray} (h : ¬ a = b) : (a.toList == b.toList) = false := by
  rw [ByteArray.toList_eq, ByteArray.toList_eq, beq_eq_false_iff_ne]
  intro h2
  exact h (ByteArray.ext (Array.toList_inj.1 h2))
/-- what a page has whose program was cut -/
def tornP (S : ChipM) : Pg := if S.torn.size = 0 then S.blank else filledP S.size S.torn
theorem size_zero (t : ByteArray) (h : t.size = 0) : t = ⟨#[]⟩ := by
  obtain ⟨d⟩ := t
  have h2 : d.size = 0 := h
  rw [Array.eq_empty_of_size_eq_zero h2]
set_option maxRecDepth 100000 in
set_option maxHeartbeats 400000 in
theorem torn_any (p q B : Nat) (G : Nat → Nat) (S : ChipM) (hn : S.size ≤ 1024) (ht : S.torn.size ≤ 1000000) (w : World) (h : NandAt w p q B G S) :
    Calls Try.prog 40 #[.pointer (some ⟨p, 0, none⟩)] w fun e w' => e = .returned (.tuple #[.string (tornP S).1, .string (tornP S).2]) ∧ Below w.heap.size w w' := by
  have c0 : w.cell? ⟨p, 0, none⟩ = some (.int .i64 (S.L.length : Int)) := h.cell 0
  have c1 : w.cell? ⟨p, 1, none⟩ = some (.int .i64 (S.pgs : Int)) := h.cell 1
  have c2 : w.cell? ⟨p, 2, none⟩ = some (.int .i64 (S.size : Int)) := h.cell 2
  have c3 : w.cell? ⟨p, 3, none⟩ = some (.string S.blank.1) := h.cell 3
  have c4 : w.cell? ⟨p, 4, none⟩ = some (.string S.blank.2) := h.cell 4
  have c10 : w.cell? ⟨p, 10, none⟩ = some (.string S.torn) := h.cell 10
  have hpl := h.lt
  have HW := hide h
  by_cases hz : S.torn.size = 0
  · have HP := hide (show tornP S = S.blank by unfold tornP; rw [if_pos hz])
    rw [HP.out]
    rw [size_zero _ hz] at c10
    clear h
    go_enter Try.func40, Try.ntmps40
    go_wp2_with fail
    go_quiet (fail)
    go_wp2_with fail
    go_ret2
    exact ⟨rfl, below_drewN ((Below.refl _ _).alloc (Nat.le_refl _) _) _⟩
  · have HP := hide (show tornP S = filledP S.size S.torn by unfold tornP; rw [if_neg hz])
    rw [HP.out]
    have hne : S.torn.toList.isEmpty = false := by
      rw [ByteArray.toList_eq]
      cases hq : S.torn.data.toList with
      | nil =>
        have h1 : S.torn.data.toList.length = 0 := by rw [hq]; rfl
        rw [size_list] at h1
        exact absurd h1 hz
      | cons a l => rfl
    have HF := hide (fun W => filled_any (S.L.length : Int) (S.pgs : Int) S.size hn S.torn (by omega) ht W)
    clear h
    go_enter Try.func40, Try.ntmps40
    go_upto_region 3 with (fail)
    obtain ⟨ob, hob⟩ : ∃ ob, ob = Obj.cells #[.string S.blank.1, .string S.blank.2] 70 := ⟨_, rfl⟩
    rw [← hob]
    have hal := (Below.refl w.heap.size w).alloc (Nat.le_refl _) ob
    have HA := hide (HW.out.below hal)
    have YA := hide (heap_new w ob)
    have BA := hide hal.drew
    have hzz : (w.alloc ob).heap.size = w.heap.size + 1 := by simp
    clear hal
    generalize w.alloc ob = wa at *
    rw [hob] at YA
    clear hob
    have c0 : wa.cell? ⟨p, 0, none⟩ = some (.int .i64 (S.L.length : Int)) := HA.out.cell 0
    have c1 : wa.cell? ⟨p, 1, none⟩ = some (.int .i64 (S.pgs : Int)) := HA.out.cell 1
    have c2 : wa.cell? ⟨p, 2, none⟩ = some (.int .i64 (S.size : Int)) := HA.out.cell 2
    have c10 : wa.cell? ⟨p, 10, none⟩ = some (.string S.torn) := HA.out.cell 10
    go_still_tail 8, (by kernel_rfl)
    change wpList _ _ _ _ _ wa.drew
    go_wp2_with fail
    refine (HF.out _).mono ?_
    rintro e w2 ⟨rfl, hb⟩
    have YB := hide ((hb.block w.heap.size (by show _ < wa.heap.size; omega)).trans YA.out)
    have BB := hide (BA.out.trans (hb.mono (by show _ ≤ wa.heap.size; omega)))
    clear hb
    have y0 := cell_of_block YB.out 0
    have y1 := cell_of_block YB.out 1
    have g0 := frozen_of_block YB.out 0
    have g1 := frozen_of_block YB.out 1
    go_wp2_with fail
    go_quiet (fail)
    go_wp2_with fail
    go_ret2
    exact ⟨rfl, below_drewN ((BB.out.setCell (Nat.le_refl _) _).setCell (Nat.le_refl _) _) _⟩
end Go.Proofs.Ythippbckjldijaa
