/-
  Layer 11: PoolEven returns true at every input.
-/
import Derived.Test.YtbkbigpijdljpaaLaw11
namespace Go.Proofs.Ytbkbigpijdljpaa
set_option linter.unusedSimpArgs false
set_option linter.unusedVariables false
open Go.RowKit Go.WideShapes Go.ChangeShapes Go.ChangeAt

theorem getD_set (L : List (Int × Int)) (j : Nat) (x : Int × Int) (i : Nat) (hj : j < L.length) : (L.set j x).getD i (0, 0) = if i = j then x else L.getD i (0, 0) := by
  simp only [List.getD, List.getElem?_set]
  by_cases h : i = j
  · subst h; simp [hj]
  · simp [Ne.symm h, h]
/-- the best one is free, and none that is free is better -/
theorem bestK_some (most : Bool) (L : List (Int × Int)) : ∀ k : Nat, (0 ≤ bestK most L k → (L.getD (bestK most L k).toNat (0, 0)).1 = 1 ∧ ∀ i, i < k → (L.getD i (0, 0)).1 = 1 → ¬ aheadB most (L.getD i (0, 0)).2 (L.getD (bestK most L k).toNat (0, 0)).2 = true) ∧
    ((∃ i, i < k ∧ (L.getD i (0, 0)).1 = 1) → 0 ≤ bestK most L k)
  | 0 => by simp [bestK]
  | k + 1 => by
    obtain ⟨h1, h2⟩ := bestK_some most L k
    have hb := bestK_bd most L k
    have hn := bestK_next most L k
    by_cases hx : (L.getD k (0, 0)).1 = 1
    · by_cases hc : bestK most L k < 0 ∨ aheadB most (L.getD k (0, 0)).2 (L.getD (bestK most L k).toNat (0, 0)).2 = true
      · rw [hn.1 hx hc]
        refine ⟨fun _ => ⟨by simpa using hx, fun i hi hi1 => ?_⟩, fun _ => by omega⟩
        rw [Int.toNat_natCast]
        by_cases e : i = k
        · subst e; unfold aheadB; split <;> simp
        · rcases hc with hc | hc
          · have := h2 ⟨i, by omega, hi1⟩; omega
          · by_cases h0 : 0 ≤ bestK most L k
            · have := (h1 h0).2 i (by omega) hi1
              intro ha
              apply this
              unfold aheadB at *
              cases most <;> simp at * <;> omega
            · have := h2 ⟨i, by omega, hi1⟩; omega
      · have hc1 : ¬ bestK most L k < 0 := fun h => hc (Or.inl h)
        have hc2 : ¬ aheadB most (L.getD k (0, 0)).2 (L.getD (bestK most L k).toNat (0, 0)).2 = true := fun h => hc (Or.inr h)
        rw [hn.2 (fun _ => ⟨hc1, hc2⟩)]
        refine ⟨fun h0 => ⟨(h1 h0).1, fun i hi hi1 => ?_⟩, fun _ => by omega⟩
        by_cases e : i = k
        · subst e; exact hc2
        · exact (h1 h0).2 i (by omega) hi1
    · rw [hn.2 (fun h => absurd h hx)]
      refine ⟨fun h0 => ⟨(h1 h0).1, fun i hi hi1 => ?_⟩, ?_⟩
      · by_cases e : i = k
        · subst e; exact absurd hi1 hx
        · exact (h1 h0).2 i (by omega) hi1
      · rintro ⟨i, hi, hi1⟩
        by_cases e : i = k
        · subst e; exact absurd hi1 hx
        · exact h2 ⟨i, by omega, hi1⟩
theorem spK_in (L : List (Int × Int)) (m M : Int) (m0 : 0 ≤ m) (M0 : m ≤ M) : ∀ k, (∀ i, i < k → (L.getD i (0, 0)).1 ≠ 3 ∧ m ≤ (L.getD i (0, 0)).2 ∧ (L.getD i (0, 0)).2 ≤ M) → (0 < k → m ≤ (spK L k).1 ∧ (spK L k).1 ≤ M) ∧ 0 ≤ (spK L k).2 ∧ (spK L k).2 ≤ M
  | 0, _ => by simp [spK]; omega
  | k + 1, h => by
    obtain ⟨h1, h2, h3⟩ := spK_in L m M m0 M0 k (fun i hi => h i (by omega))
    obtain ⟨g1, g2, g3⟩ := h k (by omega)
    have hk : k = 0 → (spK L k).1 = -1 := fun e => by subst e; rfl
    unfold spK
    rw [if_neg g1]
    refine ⟨fun _ => ?_, ?_, ?_⟩
    · simp only
      split
      · exact ⟨g2, g3⟩
      · rename_i hc
        have : 0 < k := by
          rcases Nat.eq_zero_or_pos k with e | e
          · have := hk e; omega
          · exact e
        exact h1 this
    · simp only; split <;> omega
    · simp only; split <;> omega

/-- what holds between two turns -/
def Turn (n hold t : Nat) (held : Int) (L : List (Int × Int)) : Prop :=
  L.length = n ∧ (∀ i, i < n → 0 ≤ (L.getD i (0, 0)).2 ∧ (L.getD i (0, 0)).2 ≤ t) ∧
    ((held = -1 ∧ t ≤ hold ∧ ∃ m : Int, 0 ≤ m ∧ (∃ i, i < n ∧ (L.getD i (0, 0)).2 = m) ∧ ∀ i, i < n → (L.getD i (0, 0)).1 = 1 ∧ ((L.getD i (0, 0)).2 = m ∨ (L.getD i (0, 0)).2 = m + 1)) ∨
     (∃ h : Nat, h < n ∧ held = h ∧ hold < t ∧ (L.getD h (0, 0)).1 = 2 ∧ ∀ i, i < n → i ≠ h → (L.getD i (0, 0)).1 = 1))
theorem turn_start (n hold : Nat) (hn : 2 ≤ n) : Turn n hold 0 (-1) (List.replicate n (1, 0)) := by
  have g : ∀ i, i < n → (List.replicate n ((1 : Int), (0 : Int))).getD i (0, 0) = (1, 0) := fun i hi => by simp [List.getD, hi]
  refine ⟨by simp, fun i hi => by rw [g i hi]; simp, .inl ⟨rfl, by omega, 0, by omega, ⟨0, by omega, by rw [g 0 (by omega)]⟩, fun i hi => by rw [g i hi]; simp⟩⟩
/-- a turn: who is taken, and how worn it is; the blocks behind the wearing -/
theorem turn_take {n hold t : Nat} {held : Int} {L : List (Int × Int)} (hn : 2 ≤ n) (h : Turn n hold t held L) :
    ∃ (j : Nat) (v : Int), j < n ∧ 0 ≤ v ∧ v ≤ t ∧ takeZ false L = ((j : Int), 0) ∧ takeL false L = L.set j (2, v) ∧ (L.getD j (0, 0)).1 = 1 ∧ (L.getD j (0, 0)).2 = v ∧ ∀ i, i < n → (L.getD i (0, 0)).1 = 1 → v ≤ (L.getD i (0, 0)).2 := by
  obtain ⟨hl, hw, hh⟩ := h
  obtain ⟨h1, h2⟩ := bestK_some false L n
  have hbd := bestK_bd false L n
  have hfree : ∃ i, i < n ∧ (L.getD i (0, 0)).1 = 1 := by
    rcases hh with ⟨_, _, m, _, _, ha⟩ | ⟨h, hhn, _, _, _, ha⟩
    · exact ⟨0, by omega, (ha 0 (by omega)).1⟩
    · by_cases e : h = 0
      · exact ⟨1, by omega, ha 1 (by omega) (by omega)⟩
      · exact ⟨0, by omega, ha 0 (by omega) (by omega)⟩
  have hb := h2 hfree
  obtain ⟨j, hj⟩ := Int.eq_ofNat_of_zero_le hb
  obtain ⟨g1, g2⟩ := h1 hb
  rw [hj, Int.toNat_natCast] at g1 g2
  have hjn : j < n := by omega
  refine ⟨j, (L.getD j (0, 0)).2, hjn, (hw j hjn).1, (hw j hjn).2, ?_, ?_, g1, rfl, fun i hi hi1 => ?_⟩
  · rw [takeZ, hl, if_neg (by omega), hj]
  · rw [takeL, hl, if_neg (by omega), hj, Int.toNat_natCast]
  · have := g2 i hi hi1
    simp [aheadB] at this
    exact this
theorem turn_worn {n hold t : Nat} {held : Int} {L : List (Int × Int)} {j : Nat} {v : Int} (hn : 2 ≤ n) (h : Turn n hold t held L) (hj : j < n) (v0 : 0 ≤ v) (vt : v ≤ t) (hf : (L.getD j (0, 0)).1 = 1) (hv : (L.getD j (0, 0)).2 = v) (hm : ∀ i, i < n → (L.getD i (0, 0)).1 = 1 → v ≤ (L.getD i (0, 0)).2) :
    sndZ (L.set j (2, v)) j = v ∧ wornL (L.set j (2, v)) j (v + 1) = L.set j (2, v + 1) ∧ (held = -1 → (spreadZ (L.set j (2, v + 1))).2 - (spreadZ (L.set j (2, v + 1))).1 ≤ 1 ∧ 0 ≤ (spreadZ (L.set j (2, v + 1))).1 ∧ 0 ≤ (spreadZ (L.set j (2, v + 1))).2 ∧ (spreadZ (L.set j (2, v + 1))).1 ≤ 1000 + t ∧ (spreadZ (L.set j (2, v + 1))).2 ≤ 1000 + t) ∧
      setL (L.set j (2, v + 1)) j 1 = L.set j (1, v + 1) := by
  obtain ⟨hl, hw, hh⟩ := h
  have hjl : j < L.length := by omega
  have e1 : (L.set j (2, v)).getD j (0, 0) = (2, v) := by rw [getD_set _ _ _ _ hjl, if_pos rfl]
  have e2 : (L.set j (2, v + 1)).getD j (0, 0) = (2, v + 1) := by rw [getD_set _ _ _ _ hjl, if_pos rfl]
  have hr : (0 : Int) ≤ (j : Int) ∧ (j : Int) < ((L.set j (2, v)).length : Int) := by simp; omega
  have hr2 : (0 : Int) ≤ (j : Int) ∧ (j : Int) < ((L.set j (2, v + 1)).length : Int) := by simp; omega
  refine ⟨by rw [sndZ, if_pos hr, Int.toNat_natCast, e1], ?_, fun hheld => ?_, ?_⟩
  · have hE : wornE (L.set j (2, v)) j (v + 1) = 0 := by rw [wornE, if_pos hr, if_neg (by omega)]
    rw [wornL, if_pos hE, Int.toNat_natCast, e1, List.set_set]
  · rcases hh with ⟨_, _, m, m0, ⟨i0, hi0, him⟩, ha⟩ | ⟨h, hhn, hx, _⟩
    · have hvm : v = m := by
        have := hm i0 hi0 (ha i0 hi0).1
        have := (ha j hj).2
        omega
      have hall : ∀ i, i < n → ((L.set j (2, v + 1)).getD i (0, 0)).1 ≠ 3 ∧ m ≤ ((L.set j (2, v + 1)).getD i (0, 0)).2 ∧ ((L.set j (2, v + 1)).getD i (0, 0)).2 ≤ m + 1 := fun i hi => by
        rw [getD_set _ _ _ _ hjl]
        split
        · simp only; omega
        · obtain ⟨g1, g2⟩ := ha i hi
          rw [g1]; omega
      obtain ⟨s1, s2, s3⟩ := spK_in (L.set j (2, v + 1)) m (m + 1) m0 (by omega) n hall
      have s1' := s1 (by omega)
      have hlen : (L.set j (2, v + 1)).length = n := by simp [hl]
      have hmt : m ≤ t := by omega
      unfold spreadZ
      rw [hlen]
      simp only
      split <;> omega
    · omega
  · have hE : setE (L.set j (2, v + 1)) j 1 = 0 := by rw [setE, if_pos hr2, if_neg (by omega), Int.toNat_natCast, e2, if_neg (by simp)]
    rw [setL, if_pos hE, Int.toNat_natCast, e2, List.set_set]
theorem turn_free {n hold t : Nat} {held : Int} {L : List (Int × Int)} {j : Nat} {v : Int} (h : Turn n hold t held L) (ht : t ≠ hold) (hj : j < n) (v0 : 0 ≤ v) (vt : v ≤ t) (hf : (L.getD j (0, 0)).1 = 1) (hv : (L.getD j (0, 0)).2 = v) (hm : ∀ i, i < n → (L.getD i (0, 0)).1 = 1 → v ≤ (L.getD i (0, 0)).2) :
    Turn n hold (t + 1) held (L.set j (1, v + 1)) := by
  obtain ⟨hl, hw, hh⟩ := h
  have hjl : j < L.length := by omega
  refine ⟨by simp [hl], fun i hi => ?_, ?_⟩
  · rw [getD_set _ _ _ _ hjl]
    split
    · simp only; omega
    · have := hw i hi; omega
  · rcases hh with ⟨hx, hth, m, m0, ⟨i0, hi0, him⟩, ha⟩ | ⟨h, hhn, hx, hth, h2, ha⟩
    · have hvm : v = m := by
        have := hm i0 hi0 (ha i0 hi0).1
        have := (ha j hj).2
        omega
      subst hvm
      refine .inl ⟨hx, by omega, ?_⟩
      by_cases hex : ∃ i, i < n ∧ i ≠ j ∧ (L.getD i (0, 0)).2 = v
      · obtain ⟨i1, hi1, hij, hiv⟩ := hex
        refine ⟨v, m0, ⟨i1, hi1, by rw [getD_set _ _ _ _ hjl, if_neg hij, hiv]⟩, fun i hi => ?_⟩
        rw [getD_set _ _ _ _ hjl]
        split
        · simp
        · exact ha i hi
      · refine ⟨v + 1, by omega, ⟨j, hj, by rw [getD_set _ _ _ _ hjl, if_pos rfl]⟩, fun i hi => ?_⟩
        rw [getD_set _ _ _ _ hjl]
        split
        · simp
        · rename_i hij
          refine ⟨(ha i hi).1, .inl ?_⟩
          rcases (ha i hi).2 with g | g
          · exact absurd ⟨i, hi, hij, g⟩ hex
          · exact g
    · have hjh : j ≠ h := by
        intro e; subst e; omega
      refine .inr ⟨h, hhn, hx, by omega, by rw [getD_set _ _ _ _ hjl, if_neg (Ne.symm hjh), h2], fun i hi hih => ?_⟩
      rw [getD_set _ _ _ _ hjl]
      split
      · rfl
      · exact ha i hi hih
theorem turn_hold {n t : Nat} {held : Int} {L : List (Int × Int)} {j : Nat} {v : Int} (h : Turn n t t held L) (hj : j < n) (v0 : 0 ≤ v) (vt : v ≤ t) (hf : (L.getD j (0, 0)).1 = 1) (hv : (L.getD j (0, 0)).2 = v) :
    Turn n t (t + 1) j (L.set j (2, v + 1)) := by
  obtain ⟨hl, hw, hh⟩ := h
  have hjl : j < L.length := by omega
  refine ⟨by simp [hl], fun i hi => ?_, ?_⟩
  · rw [getD_set _ _ _ _ hjl]
    split
    · simp only; omega
    · have := hw i hi; omega
  · rcases hh with ⟨hx, hth, m, m0, _, ha⟩ | ⟨h, hhn, hx, hth, h2, ha⟩
    · refine .inr ⟨j, hj, rfl, by omega, by rw [getD_set _ _ _ _ hjl, if_pos rfl], fun i hi hij => ?_⟩
      rw [getD_set _ _ _ _ hjl, if_neg hij]
      exact (ha i hi).1
    · omega
theorem cntK_all (L : List (Int × Int)) : ∀ k, (∀ i, i < k → (L.getD i (0, 0)).1 = 1) → cntK L 1 k = k
  | 0, _ => rfl
  | k + 1, h => by
    unfold cntK
    rw [cntK_all L k (fun i hi => h i (by omega)), h k (by omega)]
    rfl
theorem cntK_but (L : List (Int × Int)) (h : Nat) (h2 : (L.getD h (0, 0)).1 = 2) : ∀ k, (∀ i, i < k → i ≠ h → (L.getD i (0, 0)).1 = 1) → cntK L 1 k = if h < k then k - 1 else k
  | 0, _ => by simp [cntK]
  | k + 1, ha => by
    have ih := cntK_but L h h2 k (fun i hi => ha i (by omega))
    unfold cntK
    rw [ih]
    by_cases e : k = h
    · subst e
      rw [h2]
      simp
    · rw [ha k (by omega) e]
      simp only [beq_self_eq_true, if_true]
      split <;> split <;> omega
theorem turn_end {n hold t : Nat} {held : Int} {L : List (Int × Int)} (h : Turn n hold t held L) (hn : 2 ≤ n) : (cntK L 1 L.length : Int) = if 0 ≤ held then (n : Int) - 1 else n := by
  obtain ⟨hl, hw, hh⟩ := h
  rw [hl]
  rcases hh with ⟨hx, hth, m, m0, _, ha⟩ | ⟨h, hhn, hx, hth, h2, ha⟩
  · rw [cntK_all L n (fun i hi => (ha i hi).1), if_neg (by omega)]
  · rw [cntK_but L h h2 n ha, if_pos hhn, if_pos (by omega)]
    omega
end Go.Proofs.Ytbkbigpijdljpaa
