/-
  Layer 12, the document's answer: a list of places by contracts.
-/
import Derived.Test.YtfkilcpnjnmnmaaWhere5
import Derived.Test.YtfkilcpnjnmnmaaLaw12c
--import Derived.Test.Zdbg
namespace Go.Proofs.Ytfkilcpnjnmnmaa
set_option linter.unusedSimpArgs false
set_option linter.unusedVariables false
open Go.RowKit Go.Maps W

def refC (x : Option (Int × Int)) : List Value := match x with
  | none => [.int .i64 (-1), .int .i64 (-1)]
  | some (b, p) => [.int .i64 b, .int .i64 p]
theorem refC_len (x : Option (Int × Int)) : (refC x).length = 2 := by unfold refC; split <;> rfl
theorem refC_two (x : Option (Int × Int)) : ∃ u v, refC x = [u, v] := by unfold refC; split <;> exact ⟨_, _, rfl⟩
/-- a list of places lies at block r, its rows at g -/
structure RefW (w : World) (r g cap : Nat) (nb pg : Int) (S : Spots) : Prop where
  head : w.heap[r]? = some (.cells #[.int .i64 nb, .int .i64 pg, .slice (some ⟨g, 0, none⟩) S.length cap] 41 (0, 0))
  row : ∃ cur : Array Value, w.heap[g]? = some (.cells cur 42 (0, 0)) ∧ cur.toList.take (S.length * 2) = S.flatMap refC
  ne : r ≠ g
section
variable {w : World} {r g cap : Nat} {nb pg : Int} {S : Spots}
theorem RefW.lt (h : RefW w r g cap nb pg S) : r < w.heap.size ∧ g < w.heap.size := by
  obtain ⟨cur, h1, _⟩ := h.row
  exact ⟨heap_lt h.head, heap_lt h1⟩
theorem RefW.kept {w' : World} (h : RefW w r g cap nb pg S) (h1 : w'.heap[r]? = w.heap[r]?) (h2 : w'.heap[g]? = w.heap[g]?) : RefW w' r g cap nb pg S := by
  obtain ⟨cur, h3, h4⟩ := h.row
  exact ⟨h1.trans h.head, ⟨cur, h2.trans h3, h4⟩, h.ne⟩
theorem RefW.below {w' : World} (h : RefW w r g cap nb pg S) (hb : Below w.heap.size w w') : RefW w' r g cap nb pg S := h.kept (hb.block _ h.lt.1) (hb.block _ h.lt.2)
theorem RefW.onlyL {w' : World} {qs : List Nat} (h : RefW w r g cap nb pg S) (hb : OnlyL qs w w') (h1 : r ∉ qs) (h2 : g ∉ qs) : RefW w' r g cap nb pg S := h.kept (hb.block _ h.lt.1 h1) (hb.block _ h.lt.2 h2)
theorem RefW.drewN (h : RefW w r g cap nb pg S) (k : Nat) : RefW (w.drewN k) r g cap nb pg S := h.kept rfl rfl
theorem RefW.cells (h : RefW w r g cap nb pg S) : w.cell? ⟨r, 0, none⟩ = some (.int .i64 nb) ∧ w.cell? ⟨r, 1, none⟩ = some (.int .i64 pg) ∧ w.cell? ⟨r, 2, none⟩ = some (.slice (some ⟨g, 0, none⟩) S.length cap) :=
  ⟨by rw [cell_of_block h.head]; rfl, by rw [cell_of_block h.head]; rfl, by rw [cell_of_block h.head]; rfl⟩
theorem RefW.at (h : RefW w r g cap nb pg S) (i : Nat) (hi : i < S.length) (j : Nat) (hj : j < 2) :
    w.cell? ⟨g, i * 2 + j, none⟩ = (refC (S.getD i none))[j]? ∧ w.frozen? ⟨g, i * 2 + j, none⟩ = false := by
  obtain ⟨cur, h1, h2⟩ := h.row
  refine ⟨?_, frozen_of_block h1 _⟩
  rw [cell_of_block h1, ← flat_at refC 2 refC_len none S i j hi hj, ← h2, List.getElem?_take, if_pos (by omega)]
  simp
theorem flat_set2 : ∀ (S : Spots) (i : Nat) (x : Option (Int × Int)) (u v : Value), i < S.length → refC x = [u, v] → ((S.flatMap refC).set (i * 2) u).set (i * 2 + 1) v = (S.set i x).flatMap refC
  | [], i, x, u, v, h, _ => by simp at h
  | a :: S, 0, x, u, v, _, hx => by
    obtain ⟨a0, a1, ha⟩ := refC_two a
    simp [List.flatMap_cons, ha, hx]
  | a :: S, i + 1, x, u, v, h, hx => by
    obtain ⟨a0, a1, ha⟩ := refC_two a
    have ih := flat_set2 S i x u v (by simpa using h) hx
    rw [show (i + 1) * 2 = i * 2 + 1 + 1 by omega]
    simp only [List.flatMap_cons, ha, List.set_cons_succ, List.cons_append, List.nil_append]
    rw [ih]
theorem RefW.set (h : RefW w r g cap nb pg S) (i : Nat) (hi : i < S.length) (x : Option (Int × Int)) (u v : Value) (hx : refC x = [u, v]) :
    RefW ((w.setCell ⟨g, i * 2, none⟩ u).setCell ⟨g, i * 2 + 1, none⟩ v) r g cap nb pg (S.set i x) := by
  obtain ⟨cur, h1, h2⟩ := h.row
  refine ⟨?_, ⟨(cur.setIfInBounds (i * 2) u).setIfInBounds (i * 2 + 1) v, block_setCell (block_setCell h1 _ _) _ _, ?_⟩, h.ne⟩
  · rw [block_setCell_other (Ne.symm h.ne), block_setCell_other (Ne.symm h.ne), List.length_set]
    exact h.head
  · rw [List.length_set, ← flat_set2 S i x u v hi hx, ← h2]
    simp [List.take_set]
theorem ownZ_first {b n : Int} {k : Nat} (hk : S[k]? = some (some (b, n))) (hl : ∀ j, j < k → S[j]? ≠ some (some (b, n))) : ownZ S b n = (k : Int) := by
  unfold ownZ
  have : owner S (b, n) = some k := by
    unfold owner
    rw [List.findIdx?_eq_some_iff_getElem]
    obtain ⟨h1, h2⟩ := List.getElem?_eq_some_iff.1 hk
    refine ⟨h1, by rw [h2]; simp, fun j hj => ?_⟩
    have := hl j hj
    rw [List.getElem?_eq_getElem (by omega)] at this
    simpa using this
  rw [this]
theorem ownZ_none {b n : Int} (hl : ∀ j, j < S.length → S[j]? ≠ some (some (b, n))) : ownZ S b n = -1 := by
  unfold ownZ
  rw [owner_isnt (fun i h => by
    obtain ⟨h1, _⟩ := List.getElem?_eq_some_iff.1 h
    exact hl i h1 h)]
set_option maxHeartbeats 400000 in
theorem rowner_any (h : RefW w r g cap nb pg S) (ok : ∀ (i : Nat) b n, S[i]? = some (some (b, n)) → 0 ≤ b) (hm : S.length ≤ 4096) (b n : Int) :
    Calls Try.prog 24 #[.pointer (some ⟨r, 0, none⟩), .int .i64 b, .int .i64 n] w fun e w' => e = .returned (.int .i64 (ownZ S b n)) ∧ w = w' := by
  have HR := hide h
  have HOK := hide ok
  obtain ⟨-, -, c2⟩ := h.cells
  clear h ok
  go_enter Try.func24, Try.ntmps24
  go_wp2_with fail
  go_loop [7] (fun i => ∃ k : Nat, k ≤ S.length ∧ i = .int .i64 k ∧ ∀ j, j < k → S[j]? ≠ some (some (b, n))) (fun i => S.length - (intOf i).toNat)
  case atStart => exact ⟨0, by omega, rfl, fun j hj => by omega⟩
  case round =>
    obtain ⟨k, hk, rfl, hno⟩ := hrel
    have HNO := hide hno
    clear hno
    by_cases hlt : k < S.length
    · obtain ⟨d0, -⟩ := HR.out.at k hlt 0 (by omega)
      obtain ⟨d1, -⟩ := HR.out.at k hlt 1 (by omega)
      rw [Nat.add_zero] at d0
      by_cases hb : b < 0
      · have hb0 : ¬ 0 ≤ b := by omega
        have HN2 := hide (show ∀ j, j < k + 1 → S[j]? ≠ some (some (b, n)) from fun j hj e => by have := HOK.out j b n e; omega)
        clear d0 d1 hb
        go_wp2_with fail
        go_round
        case rel => exact ⟨k + 1, by omega, by go_num, HN2.out⟩
        case measure => simp [intOf]; omega
      · have hb0 : 0 ≤ b := by omega
        cases hs : S.getD k none with
        | none =>
          rw [hs] at d0 d1
          simp only [refC, List.getElem?_cons_zero, List.getElem?_cons_succ] at d0 d1
          have t0 : ((-1 : Int) == b) = false := by simp; omega
          have HN2 := hide (show ∀ j, j < k + 1 → S[j]? ≠ some (some (b, n)) from fun j hj e => by
            by_cases ej : j = k
            · subst ej
              simp only [List.getD, e, Option.getD_some] at hs
              cases hs
            · exact HNO.out j (by omega) e)
          clear hs hb
          go_wp2_with fail
          go_round
          case rel => exact ⟨k + 1, by omega, by go_num, HN2.out⟩
          case measure => simp [intOf]; omega
        | some y =>
          obtain ⟨y1, y2⟩ := y
          rw [hs] at d0 d1
          simp only [refC, List.getElem?_cons_zero, List.getElem?_cons_succ] at d0 d1
          have hgs := getD_some hs
          by_cases he : y1 = b ∧ y2 = n
          · obtain ⟨rfl, rfl⟩ := he
            have HZ := hide (ownZ_first hgs HNO.out)
            have t0 : (y1 == y1) = true := by simp
            have t1 : (y2 == y2) = true := by simp
            clear hs hgs hb
            go_wp2_with fail
            go_ret
            exact ⟨ret_int HZ.out.symm, rfl⟩
          · have HN2 := hide (show ∀ j, j < k + 1 → S[j]? ≠ some (some (b, n)) from fun j hj e => by
              by_cases ej : j = k
              · subst ej
                rw [hgs] at e
                simp only [Option.some.injEq, Prod.mk.injEq] at e
                exact he e
              · exact HNO.out j (by omega) e)
            clear hs hgs hb
            by_cases h1 : y1 = b
            · have h2 : ¬ y2 = n := fun e => he ⟨h1, e⟩
              have t0 : (y1 == b) = true := by simp [h1]
              have t1 : (y2 == n) = false := by simp [h2]
              clear he h1 h2
              go_wp2_with fail
              go_round
              case rel => exact ⟨k + 1, by omega, by go_num, HN2.out⟩
              case measure => simp [intOf]; omega
            · have t0 : (y1 == b) = false := by simp [h1]
              clear he h1
              go_wp2_with fail
              go_round
              case rel => exact ⟨k + 1, by omega, by go_num, HN2.out⟩
              case measure => simp [intOf]; omega
    · obtain rfl : k = S.length := by omega
      have HZ := hide (ownZ_none HNO.out)
      go_wp2_with fail
      go_ret
      exact ⟨ret_int HZ.out.symm, rfl⟩
/-- Put: the error's number, and the places behind it -/
def outP (S : Spots) (nb pg i b n : Int) : Prop := i < 0 ∨ (S.length : Int) ≤ i ∨ b < 0 ∨ nb ≤ b ∨ n < 0 ∨ pg ≤ n
instance (S : Spots) (nb pg i b n : Int) : Decidable (outP S nb pg i b n) := by unfold outP; infer_instance
def putZ (S : Spots) (nb pg i b n : Int) : Int := if outP S nb pg i b n then 3 else putE S i.toNat (b, n)
def putT (S : Spots) (nb pg i b n : Int) : Spots := if outP S nb pg i b n then S else putS S i.toNat (b, n)
set_option maxHeartbeats 1000000 in
theorem rput_out (h : RefW w r g cap nb pg S) (hm : S.length ≤ 4096) (i b n : Int) (ho : outP S nb pg i b n) :
    Calls Try.prog 11 #[.pointer (some ⟨r, 0, none⟩), .int .i64 i, .int .i64 b, .int .i64 n] w fun e w' => e = .returned (.int .i64 3) ∧ w = w' := by
  obtain ⟨c0, c1, c2⟩ := h.cells
  have hsp : i < 0 ∨ (¬ i < 0 ∧ (S.length : Int) ≤ i) ∨ (¬ i < 0 ∧ ¬ (S.length : Int) ≤ i ∧ b < 0) ∨ (¬ i < 0 ∧ ¬ (S.length : Int) ≤ i ∧ ¬ b < 0 ∧ nb ≤ b) ∨ (¬ i < 0 ∧ ¬ (S.length : Int) ≤ i ∧ ¬ b < 0 ∧ ¬ nb ≤ b ∧ n < 0) ∨ (¬ i < 0 ∧ ¬ (S.length : Int) ≤ i ∧ ¬ b < 0 ∧ ¬ nb ≤ b ∧ ¬ n < 0 ∧ pg ≤ n) := by
    unfold outP at ho; omega
  clear h ho
  rcases hsp with h1 | ⟨h1, h2⟩ | ⟨h1, h2, h3⟩ | ⟨h1, h2, h3, h4⟩ | ⟨h1, h2, h3, h4, h5⟩ | ⟨h1, h2, h3, h4, h5, h6⟩
  all_goals
    go_enter Try.func11, Try.ntmps11
    go_wp2_with fail
    go_ret
    exact ⟨rfl, rfl⟩
set_option maxHeartbeats 1000000 in
theorem rput_in (h : RefW w r g cap nb pg S) (ok : ∀ (i : Nat) b n, S[i]? = some (some (b, n)) → 0 ≤ b) (hm : S.length ≤ 4096) (i b n : Int) (ho : ¬ outP S nb pg i b n) :
    Calls Try.prog 11 #[.pointer (some ⟨r, 0, none⟩), .int .i64 i, .int .i64 b, .int .i64 n] w fun e w' => e = .returned (.int .i64 (putE S i.toNat (b, n))) ∧ RefW w' r g cap nb pg (putS S i.toNat (b, n)) ∧ OnlyL [g] w w' := by
  obtain ⟨h1, h2, h3, h4, h5, h6⟩ : ¬ i < 0 ∧ ¬ (S.length : Int) ≤ i ∧ ¬ b < 0 ∧ ¬ nb ≤ b ∧ ¬ n < 0 ∧ ¬ pg ≤ n := by unfold outP at ho; omega
  obtain ⟨k, rfl⟩ := Int.eq_ofNat_of_zero_le (show 0 ≤ i by omega)
  rw [Int.toNat_natCast]
  have hk : k < S.length := by omega
  have HR := hide h
  have HO := hide (rowner_any h ok hm b n)
  obtain ⟨c0, c1, c2⟩ := h.cells
  have hcs := putE_cases S k (b, n)
  clear ho
  rcases hcs with hE | ⟨hE, j, hj, hjk⟩
  · have hz : ownZ S b n = -1 ∨ ownZ S b n = (k : Int) := by
      unfold ownZ
      unfold putE at hE
      cases hw : owner S (b, n) with
      | none => exact .inl rfl
      | some j => rw [hw] at hE; simp at hE; right; simp [hE]
    unfold putS
    rw [hE, if_pos rfl]
    obtain ⟨d0, f0⟩ := h.at k hk 0 (by omega)
    obtain ⟨d1, f1⟩ := h.at k hk 1 (by omega)
    obtain ⟨a0, a1, ha⟩ := refC_two (S.getD k none)
    rw [ha] at d0 d1
    simp only [List.getElem?_cons_zero, List.getElem?_cons_succ, Nat.add_zero] at d0 d1 f0
    have HX := hide (h.set k hk (some (b, n)) (.int .i64 b) (.int .i64 n) rfl)
    clear h hE ha
    rcases hz with hz | hz
    all_goals
      rw [hz] at HO
      have t1 : ((k : Int) != (k : Int)) = false := by simp
      clear hz
      go_enter Try.func11, Try.ntmps11
      go_wp2_with fail
      refine HO.out.mono ?_
      rintro e w1 ⟨rfl, rfl⟩
      go_wp2_with fail
      go_ret
      exact ⟨rfl, HX.out, (OnlyL.setCell (by simp) _ _).trans (OnlyL.setCell (by simp) _ _)⟩
  · have hz : ownZ S b n = (j : Int) := by unfold ownZ; rw [hj]
    unfold putS
    rw [hE, if_neg (by omega)]
    rw [hz] at HO
    have t1 : ((j : Int) != (k : Int)) = true := by simp; omega
    have t2 : ((j : Int) == (k : Int)) = false := by simp; omega
    clear h hE hz hj hjk
    go_enter Try.func11, Try.ntmps11
    go_wp2_with fail
    refine HO.out.mono ?_
    rintro e w1 ⟨rfl, rfl⟩
    go_wp2_with fail
    go_ret
    exact ⟨rfl, HR.out, OnlyL.refl _ _⟩
theorem rput_any (h : RefW w r g cap nb pg S) (ok : ∀ (i : Nat) b n, S[i]? = some (some (b, n)) → 0 ≤ b) (hm : S.length ≤ 4096) (i b n : Int) :
    Calls Try.prog 11 #[.pointer (some ⟨r, 0, none⟩), .int .i64 i, .int .i64 b, .int .i64 n] w fun e w' => e = .returned (.int .i64 (putZ S nb pg i b n)) ∧ RefW w' r g cap nb pg (putT S nb pg i b n) ∧ OnlyL [g] w w' := by
  unfold putZ putT
  by_cases ho : outP S nb pg i b n
  · rw [if_pos ho, if_pos ho]
    refine (rput_out h hm i b n ho).mono ?_
    rintro e w' ⟨rfl, rfl⟩
    exact ⟨rfl, h, OnlyL.refl _ _⟩
  · rw [if_neg ho, if_neg ho]
    exact rput_in h ok hm i b n ho
/-- Drop: the error's number, and the places behind it -/
def dropZ (S : Spots) (i : Int) : Int := if i < 0 ∨ (S.length : Int) ≤ i then 3 else 0
def dropT (S : Spots) (i : Int) : Spots := if i < 0 ∨ (S.length : Int) ≤ i then S else S.set i.toNat none
theorem rdrop_any (h : RefW w r g cap nb pg S) (hm : S.length ≤ 4096) (i : Int) :
    Calls Try.prog 13 #[.pointer (some ⟨r, 0, none⟩), .int .i64 i] w fun e w' => e = .returned (.int .i64 (dropZ S i)) ∧ RefW w' r g cap nb pg (dropT S i) ∧ OnlyL [g] w w' := by
  have HR := hide h
  obtain ⟨c0, c1, c2⟩ := h.cells
  unfold dropZ dropT
  by_cases ho : i < 0 ∨ (S.length : Int) ≤ i
  · rw [if_pos ho, if_pos ho]
    clear h
    by_cases h1 : i < 0
    · clear ho
      go_enter Try.func13, Try.ntmps13
      go_wp2_with fail
      go_ret
      exact ⟨rfl, HR.out, OnlyL.refl _ _⟩
    · have h3 : (S.length : Int) ≤ i := by omega
      clear ho
      go_enter Try.func13, Try.ntmps13
      go_wp2_with fail
      go_ret
      exact ⟨rfl, HR.out, OnlyL.refl _ _⟩
  · rw [if_neg ho, if_neg ho]
    obtain ⟨k, rfl⟩ := Int.eq_ofNat_of_zero_le (show 0 ≤ i by omega)
    rw [Int.toNat_natCast]
    have hk : k < S.length := by omega
    have h1 : ¬ (S.length : Int) ≤ (k : Int) := by omega
    obtain ⟨d0, f0⟩ := h.at k hk 0 (by omega)
    obtain ⟨d1, f1⟩ := h.at k hk 1 (by omega)
    obtain ⟨a0, a1, ha⟩ := refC_two (S.getD k none)
    rw [ha] at d0 d1
    simp only [List.getElem?_cons_zero, List.getElem?_cons_succ, Nat.add_zero] at d0 d1 f0
    have HX := hide (h.set k hk none (.int .i64 (-1)) (.int .i64 (-1)) rfl)
    clear h ho ha
    go_enter Try.func13, Try.ntmps13
    go_wp2_with fail
    go_ret
    exact ⟨rfl, HX.out, (OnlyL.setCell (by simp) _ _).trans (OnlyL.setCell (by simp) _ _)⟩
end
end Go.Proofs.Ytfkilcpnjnmnmaa
