/-
  Layer 12: the program's Put and Drop at whatever numbers; how many are live.
-/
import Derived.Test.YtfkilcpnjnmnmaaRWhere2
--import Derived.Test.Zdbg
namespace Go.Proofs.Ytfkilcpnjnmnmaa
set_option linter.unusedSimpArgs false
set_option linter.unusedVariables false
open Go.RowKit Go.Maps W

theorem countP_or_one (P : Nat → Bool) (n0 : Nat) (h0 : P n0 = false) : ∀ m, n0 < m → (List.range m).countP (fun n => decide (n = n0) || P n) = (List.range m).countP P + 1
  | 0, h => by omega
  | m + 1, h => by
    rw [List.range_succ, List.countP_append, List.countP_append]
    by_cases e : n0 = m
    · subst e
      have : (List.range n0).countP (fun n => decide (n = n0) || P n) = (List.range n0).countP P := by
        apply List.countP_congr
        intro x hx
        have : ¬ x = n0 := by have := List.mem_range.1 hx; omega
        simp [this]
      rw [this]
      simp [List.countP_cons, h0]
    · have ih := countP_or_one P n0 h0 m (by omega)
      rw [ih]
      have : ¬ m = n0 := by omega
      simp [List.countP_cons, this]
      omega
theorem owner_cons (x : Option (Int × Int)) (S : Spots) (y : Int × Int) : (owner (x :: S) y).isSome = (x == some y || (owner S y).isSome) := by
  unfold owner
  rw [List.findIdx?_cons]
  cases h : (x == some y)
  · simp
  · simp
theorem live_of : ∀ (S : Spots) (b : Int) (m : Nat), Inj S → (∀ (i : Nat) n, S[i]? = some (some (b, n)) → 0 ≤ n ∧ n < m) → (List.range m).countP (fun n : Nat => (owner S (b, (n : Int))).isSome) = liveN S b
  | [], b, m, _, _ => by simp [owner, liveN]
  | x :: S, b, m, hi, ok => by
    have hi2 : Inj S := fun i j y h1 h2 => by
      have := hi (i + 1) (j + 1) y (by simpa using h1) (by simpa using h2)
      omega
    have ih := live_of S b m hi2 (fun i n h => ok (i + 1) n (by simpa using h))
    have e1 : liveN (x :: S) b = liveN S b + if x.any (·.1 == b) = true then 1 else 0 := by unfold liveN; rw [List.countP_cons]
    rw [e1, ← ih]
    by_cases hx : ∃ n, x = some (b, n)
    · obtain ⟨n, rfl⟩ := hx
      obtain ⟨n0, n1⟩ := ok 0 n rfl
      obtain ⟨k, rfl⟩ := Int.eq_ofNat_of_zero_le n0
      have hk : (owner S (b, (k : Int))).isSome = false := by
        rw [owner_isnt (fun i h => by
          have := hi 0 (i + 1) (b, (k : Int)) rfl (by simpa using h)
          omega)]
        rfl
      have h2 := countP_or_one (fun n : Nat => (owner S (b, (n : Int))).isSome) k hk m (by omega)
      have h3 : (fun n : Nat => (owner (some (b, (k : Int)) :: S) (b, (n : Int))).isSome) = fun n : Nat => decide (n = k) || (owner S (b, (n : Int))).isSome := by
        funext n
        rw [owner_cons]
        congr 1
        by_cases e : n = k
        · subst e; simp
        · have : ¬ (k : Int) = (n : Int) := by omega
          simp [e, this]
      rw [h3, h2]
      simp
    · have h3 : (fun n : Nat => (owner (x :: S) (b, (n : Int))).isSome) = fun n : Nat => (owner S (b, (n : Int))).isSome := by
        funext n
        rw [owner_cons]
        have : (x == some (b, (n : Int))) = false := by
          simp only [beq_eq_false_iff_ne]
          intro e
          exact hx ⟨_, e⟩
        rw [this]
        rfl
      rw [h3]
      have : x.any (·.1 == b) = false := by
        cases x with
        | none => rfl
        | some y =>
          obtain ⟨y1, y2⟩ := y
          simp
          intro e
          exact hx ⟨y2, by rw [e]⟩
      rw [this]
      simp

section
variable {w : World} {p q o l : Nat} {pgs nb : Nat} {S : Spots}
theorem ofL_live (h : WhereAt w p q o l (pgs : Int) nb S) (b : Int) : (ofL S b pgs).length = liveN S b := by
  unfold ofL
  rw [List.length_map, ← List.countP_eq_length_filter]
  exact live_of S b pgs h.inj (fun i n e => by have := h.ok i b n e; omega)
theorem pput_any (h : WhereAt w p q o l (pgs : Int) nb S) (i b n : Int) :
    Calls Try.prog 10 #[.pointer (some ⟨p, 0, none⟩), .int .i64 i, .agg #[.int .i64 b, .int .i64 n]] w fun e w' => e = .returned (.int .i64 (putZ S nb pgs i b n)) ∧ WhereAt w' p q o l (pgs : Int) nb (putT S nb pgs i b n) ∧ OnlyL [q, o, l] w w' := by
  unfold putZ putT
  by_cases ho : outP S nb pgs i b n
  · rw [if_pos ho, if_pos ho]
    have hx : Calls Try.prog 10 #[.pointer (some ⟨p, 0, none⟩), .int .i64 i, .agg #[.int .i64 b, .int .i64 n]] w fun e w' => e = .returned (.int .i64 3) ∧ Below w.heap.size w w' := by
      by_cases h1 : i < 0 ∨ (S.length : Int) ≤ i
      · exact put_bad1 h i b n h1
      · obtain ⟨i', rfl⟩ := Int.eq_ofNat_of_zero_le (show 0 ≤ i by omega)
        by_cases h2 : b < 0 ∨ (nb : Int) ≤ b
        · exact put_bad2 h i' b n (by omega) h2
        · obtain ⟨b', rfl⟩ := Int.eq_ofNat_of_zero_le (show 0 ≤ b by omega)
          exact put_bad3 h i' b' n (by omega) (by omega) (by unfold outP at ho; omega)
    refine hx.mono ?_
    rintro e w' ⟨rfl, hb⟩
    exact ⟨rfl, h.below hb, .of_below hb⟩
  · rw [if_neg ho, if_neg ho]
    unfold outP at ho
    exact put_int h i b n (by omega) (by omega) (by omega) (by omega) (by omega) (by omega)
theorem pdrop_any (h : WhereAt w p q o l (pgs : Int) nb S) (i : Int) :
    Calls Try.prog 12 #[.pointer (some ⟨p, 0, none⟩), .int .i64 i] w fun e w' => e = .returned (.int .i64 (dropZ S i)) ∧ WhereAt w' p q o l (pgs : Int) nb (dropT S i) ∧ OnlyL [q, o, l] w w' := by
  unfold dropZ dropT
  by_cases ho : i < 0 ∨ (S.length : Int) ≤ i
  · rw [if_pos ho, if_pos ho]
    refine (drop_no h i ho).mono ?_
    rintro e w' ⟨rfl, rfl⟩
    exact ⟨rfl, h, OnlyL.refl _ _⟩
  · rw [if_neg ho, if_neg ho]
    exact drop_int h i (by omega) (by omega)
theorem pat_any (h : WhereAt w p q o l (pgs : Int) nb S) (i : Nat) (hi : i < S.length) :
    Calls Try.prog 14 #[.pointer (some ⟨p, 0, none⟩), .int .i64 (i : Int)] w fun e w' => e = .returned (.tuple #[.agg #[.int .i64 (plZ (S.getD i none)).1, .int .i64 (plZ (S.getD i none)).2], .bool (S.getD i none).isSome]) ∧ Below w.heap.size w w' := by
  have := at_any h (i : Int) (by omega) (by omega)
  rwa [Int.toNat_natCast] at this
/-- how many blocks, live pages: at whatever number -/
theorem plive_any (h : WhereAt w p q o l (pgs : Int) nb S) (b : Int) :
    Calls Try.prog 18 #[.pointer (some ⟨p, 0, none⟩), .int .i64 b] w fun e w' => e = .returned (.int .i64 ((ofL S b pgs).length : Nat)) ∧ w = w' := by
  rw [ofL_live h b]
  by_cases hb : b < 0 ∨ (nb : Int) ≤ b
  · have : liveN S b = 0 := by
      rw [← ofL_live h b, ofL_none (fun n => by
        cases ho : owner S (b, n) with
        | none => rfl
        | some i => exfalso; have := h.ok i b n (owner_some ho); omega)]
      rfl
    rw [this]
    exact live_no h b hb
  · obtain ⟨b', rfl⟩ := Int.eq_ofNat_of_zero_le (show 0 ≤ b by omega)
    exact live_yes h b' (by omega)
theorem ref_ok (h : WhereAt w p q o l (pgs : Int) nb S) : ∀ (i : Nat) b n, S[i]? = some (some (b, n)) → 0 ≤ b := fun i b n e => (h.ok i b n e).1
theorem putT_len (S : Spots) (nb pg i b n : Int) : (putT S nb pg i b n).length = S.length := by unfold putT; split <;> simp [putS_len]
theorem dropT_len (S : Spots) (i : Int) : (dropT S i).length = S.length := by unfold dropT; split <;> simp
end
end Go.Proofs.Ytfkilcpnjnmnmaa
