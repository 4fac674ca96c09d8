/-
  Layer 11: the document's pool by contracts.
-/
import Derived.Test.YtpgogdnjddeagaaPool3
import Derived.Test.YtpgogdnjddeagaaKitG
namespace Go.Proofs.Ytpgogdnjddeagaa
set_option linter.unusedSimpArgs false
set_option linter.unusedVariables false
open Go.RowKit

def fsts (L : List (Int × Int)) : List Value := L.map fun x => .int .i64 x.1
def snds (L : List (Int × Int)) : List Value := L.map fun x => .int .i64 x.2
theorem fsts_at (L : List (Int × Int)) (i : Nat) (h : i < L.length) : (fsts L)[i]? = some (.int .i64 (L.getD i (0, 0)).1) := by simp [fsts, List.getD, h]
theorem snds_at (L : List (Int × Int)) (i : Nat) (h : i < L.length) : (snds L)[i]? = some (.int .i64 (L.getD i (0, 0)).2) := by simp [snds, List.getD, h]
theorem fsts_set1 (L : List (Int × Int)) (i : Nat) (v : Int) : (fsts L).set i (.int .i64 v) = fsts (L.set i (v, (L.getD i (0, 0)).2)) := by
  simp [fsts, List.map_set]
theorem snds_set2 (L : List (Int × Int)) (i : Nat) (v : Int) : (snds L).set i (.int .i64 v) = snds (L.set i ((L.getD i (0, 0)).1, v)) := by
  simp [snds, List.map_set]
theorem set_self' (l : List Value) (i : Nat) (v : Value) (h : i < l.length) (hv : l[i]? = some v) : l.set i v = l := by
  rw [List.getElem?_eq_getElem h, Option.some.injEq] at hv
  rw [← hv]
  exact List.set_getElem_self h
theorem fsts_set2 (L : List (Int × Int)) (i : Nat) (h : i < L.length) (v : Int) : fsts (L.set i ((L.getD i (0, 0)).1, v)) = fsts L := by
  unfold fsts
  rw [List.map_set]
  exact set_self' _ _ _ (by simpa using h) (by simp [List.getD, h])
theorem snds_set1 (L : List (Int × Int)) (i : Nat) (h : i < L.length) (v : Int) : snds (L.set i (v, (L.getD i (0, 0)).2)) = snds L := by
  unfold snds
  rw [List.map_set]
  exact set_self' _ _ _ (by simpa using h) (by simp [List.getD, h])
/-- the document's pool: its head, the states, the wears -/
structure RPAt (w : World) (r s t : Nat) (L : List (Int × Int)) : Prop where
  head : w.heap[r]? = some (.cells #[.slice (some ⟨s, 0, none⟩) L.length L.length, .slice (some ⟨t, 0, none⟩) L.length L.length] 55 (0, 0))
  st : w.heap[s]? = some (.cells (fsts L).toArray 3 (0, 0))
  we : w.heap[t]? = some (.cells (snds L).toArray 3 (0, 0))
  n1 : r ≠ s
  n2 : r ≠ t
  n3 : s ≠ t
theorem RPAt.below {w w' : World} {r s t : Nat} {L : List (Int × Int)} (h : RPAt w r s t L) (hb : Below w.heap.size w w') : RPAt w' r s t L :=
  ⟨by rw [hb.block r (heap_lt h.head)]; exact h.head, by rw [hb.block s (heap_lt h.st)]; exact h.st, by rw [hb.block t (heap_lt h.we)]; exact h.we, h.n1, h.n2, h.n3⟩
theorem RPAt.only {w w' : World} {r s t q : Nat} {L : List (Int × Int)} (h : RPAt w r s t L) (hb : Only q w w') (q1 : r ≠ q) (q2 : s ≠ q) (q3 : t ≠ q) : RPAt w' r s t L :=
  ⟨by rw [hb.block r (heap_lt h.head) q1]; exact h.head, by rw [hb.block s (heap_lt h.st) q2]; exact h.st, by rw [hb.block t (heap_lt h.we) q3]; exact h.we, h.n1, h.n2, h.n3⟩
theorem RPAt.drews {w : World} {r s t : Nat} {L : List (Int × Int)} (h : RPAt w r s t L) (k : Nat) : RPAt (w.drewN k) r s t L := ⟨h.head, h.st, h.we, h.n1, h.n2, h.n3⟩
theorem Only.drews {q : Nat} {a b : World} (h : Only q a b) (k : Nat) : Only q a (b.drewN k) := ⟨h.os, h.tape, h.output, h.size, h.block⟩
theorem RPAt.drew {w : World} {r s t : Nat} {L : List (Int × Int)} (h : RPAt w r s t L) : RPAt w.drew r s t L := ⟨h.head, h.st, h.we, h.n1, h.n2, h.n3⟩
theorem PoolAt.only {w w' : World} {p q k : Nat} {L : List (Int × Int)} (h : PoolAt w p q L) (hb : Only k w w') (q1 : p ≠ k) (q2 : q ≠ k) : PoolAt w' p q L :=
  ⟨by rw [hb.block p (heap_lt h.head) q1]; exact h.head, by rw [hb.block q (heap_lt h.row) q2]; exact h.row, h.ne⟩
theorem RPAt.cells {w : World} {r s t : Nat} {L : List (Int × Int)} (h : RPAt w r s t L) :
    w.cell? ⟨r, 0, none⟩ = some (.slice (some ⟨s, 0, none⟩) L.length L.length) ∧ w.cell? ⟨r, 1, none⟩ = some (.slice (some ⟨t, 0, none⟩) L.length L.length) := ⟨by rw [cell_of_block h.head]; rfl, by rw [cell_of_block h.head]; rfl⟩
theorem RPAt.at {w : World} {r s t : Nat} {L : List (Int × Int)} (h : RPAt w r s t L) (i : Nat) (hi : i < L.length) :
    w.cell? ⟨s, i, none⟩ = some (.int .i64 (L.getD i (0, 0)).1) ∧ w.cell? ⟨t, i, none⟩ = some (.int .i64 (L.getD i (0, 0)).2) ∧ w.frozen? ⟨s, i, none⟩ = false ∧ w.frozen? ⟨t, i, none⟩ = false :=
  ⟨by rw [cell_of_block h.st]; simpa using fsts_at L i hi, by rw [cell_of_block h.we]; simpa using snds_at L i hi, frozen_of_block h.st _, frozen_of_block h.we _⟩
theorem RPAt.setFst {w : World} {r s t : Nat} {L : List (Int × Int)} (h : RPAt w r s t L) (i : Nat) (hi : i < L.length) (v : Int) : RPAt (w.setCell ⟨s, i, none⟩ (.int .i64 v)) r s t (L.set i (v, (L.getD i (0, 0)).2)) :=
  ⟨by rw [block_setCell_other (Ne.symm h.n1), h.head]; simp, by rw [block_setCell h.st, ← fsts_set1 L i v]; simp, by rw [block_setCell_other h.n3, h.we, snds_set1 L i hi], h.n1, h.n2, h.n3⟩
theorem RPAt.setSnd {w : World} {r s t : Nat} {L : List (Int × Int)} (h : RPAt w r s t L) (i : Nat) (hi : i < L.length) (v : Int) : RPAt (w.setCell ⟨t, i, none⟩ (.int .i64 v)) r s t (L.set i ((L.getD i (0, 0)).1, v)) :=
  ⟨by rw [block_setCell_other (Ne.symm h.n2), h.head]; simp, by rw [block_setCell_other (Ne.symm h.n3), h.st, fsts_set2 L i hi], by rw [block_setCell h.we, ← snds_set2 L i v]; simp, h.n1, h.n2, h.n3⟩

set_option maxRecDepth 100000 in
set_option maxHeartbeats 1000000 in
theorem rcount_any (r s t : Nat) (L : List (Int × Int)) (hl : L.length ≤ 1000000) (v : Int) (w : World) (h : RPAt w r s t L) :
    Calls Try.prog 13 #[.pointer (some ⟨r, 0, none⟩), .int .i64 v] w fun e w' => e = .returned (.int .i64 (cntK L v L.length : Int)) ∧ w = w' := by
  have H := hide h
  obtain ⟨c0, c1⟩ := h.cells
  clear h
  generalize hn : L.length = n at *
  have HN := hide hn
  clear hn
  go_enter Try.func13, Try.ntmps13
  go_wp2_with fail
  go_loop [5, 6] (fun c i => ∃ k : Nat, k ≤ n ∧ i = .int .i64 k ∧ c = .int .i64 (cntK L v k : Int)) (fun _ i => n - (intOf i).toNat)
  case atStart => exact ⟨0, by omega, rfl, rfl⟩
  case round =>
    obtain ⟨k, hk, rfl, rfl⟩ := hrel
    have hck := cntK_le L v k
    by_cases hlt : k < n
    · obtain ⟨a0, a1, -⟩ := H.out.at k (by rw [HN.out]; exact hlt)
      have hnx := hide (show cntK L v (k + 1) = if ((L.getD k (0, 0)).1 == v) = true then cntK L v k + 1 else cntK L v k from rfl)
      generalize (L.getD k (0, 0)).1 = x at *
      generalize (L.getD k (0, 0)).2 = y at *
      generalize cntK L v k = c at *
      by_cases hx : (x == v) = true
      · go_wp2_with fail
        go_round
        case rel => exact ⟨k + 1, by omega, by go_num, by rw [hnx.out, if_pos hx]; go_num⟩
        case measure => simp [intOf]; omega
      · have hx' : (x == v) = false := by simpa using hx
        go_wp2_with fail
        go_round
        case rel => exact ⟨k + 1, by omega, by go_num, by rw [hnx.out, if_neg hx]⟩
        case measure => simp [intOf]; omega
    · obtain rfl : k = n := by omega
      go_wp2_with fail
      go_ret
      exact ⟨rfl, rfl⟩

def WOk (L : List (Int × Int)) : Prop := ∀ i, i < L.length → 0 ≤ (L.getD i (0, 0)).2
theorem spK_hi (L : List (Int × Int)) (hW : WOk L) : ∀ k, k ≤ L.length → 0 ≤ (spK L k).2 ∧ ((spK L k).1 < 0 → (spK L k).2 = 0)
  | 0, _ => ⟨by simp [spK], by simp [spK]⟩
  | k + 1, h => by
    have := spK_hi L hW k (by omega)
    have hw := hW k (by omega)
    unfold spK
    split
    · exact this
    · simp only
      split <;> split <;> omega
/-- the document's way: whether none was seen yet, the least, the greatest -/
def fsK (L : List (Int × Int)) : Nat → Bool
  | 0 => true
  | k + 1 => if (L.getD k (0, 0)).1 = 3 then fsK L k else false
theorem fsK_iff (L : List (Int × Int)) (hW : WOk L) : ∀ k, k ≤ L.length → (fsK L k = true ↔ (spK L k).1 < 0)
  | 0, _ => by simp [fsK, spK]
  | k + 1, h => by
    have := fsK_iff L hW k (by omega)
    have hw := hW k (by omega)
    unfold fsK spK
    split
    · exact this
    · simp only [Bool.false_eq_true, false_iff]
      split <;> omega
def loZ (L : List (Int × Int)) (k : Nat) : Int := if fsK L k = true then 0 else (spK L k).1
theorem sp_next (L : List (Int × Int)) (hW : WOk L) (k : Nat) (hk : k < L.length) :
    ((L.getD k (0, 0)).1 = 3 → fsK L (k + 1) = fsK L k ∧ loZ L (k + 1) = loZ L k ∧ (spK L (k + 1)).2 = (spK L k).2) ∧
    (¬ (L.getD k (0, 0)).1 = 3 → fsK L (k + 1) = false ∧ loZ L (k + 1) = (if fsK L k = true ∨ (L.getD k (0, 0)).2 < loZ L k then (L.getD k (0, 0)).2 else loZ L k) ∧
      (spK L (k + 1)).2 = if fsK L k = true ∨ (spK L k).2 < (L.getD k (0, 0)).2 then (L.getD k (0, 0)).2 else (spK L k).2) := by
  have hw := hW k hk
  have hh := spK_hi L hW k (by omega)
  have hf := fsK_iff L hW k (by omega)
  have e : spK L (k + 1) = if (L.getD k (0, 0)).1 = 3 then spK L k else
      (if (spK L k).1 < 0 ∨ (L.getD k (0, 0)).2 < (spK L k).1 then (L.getD k (0, 0)).2 else (spK L k).1, if (spK L k).2 < (L.getD k (0, 0)).2 then (L.getD k (0, 0)).2 else (spK L k).2) := rfl
  have ef : fsK L (k + 1) = if (L.getD k (0, 0)).1 = 3 then fsK L k else false := rfl
  constructor
  · intro h
    rw [if_pos h] at e ef
    unfold loZ
    rw [e, ef]
    exact ⟨rfl, rfl, rfl⟩
  · intro h
    rw [if_neg h] at e ef
    unfold loZ
    rw [e, ef]
    refine ⟨rfl, ?_, ?_⟩
    · simp only [Bool.false_eq_true, if_false]
      cases hb : fsK L k
      · have : ¬ (spK L k).1 < 0 := fun h' => by rw [hf.2 h'] at hb; cases hb
        simp only [Bool.false_eq_true, if_false, false_or]
        by_cases h2 : (L.getD k (0, 0)).2 < (spK L k).1
        · rw [if_pos (.inr h2), if_pos h2]
        · rw [if_neg (by omega), if_neg h2]
      · have : (spK L k).1 < 0 := hf.1 hb
        rw [if_pos (.inl this), if_pos (.inl rfl)]
    · simp only
      cases hb : fsK L k
      · simp only [Bool.false_eq_true, false_or]
      · have h1 : (spK L k).2 = 0 := hh.2 (hf.1 hb)
        rw [h1, if_pos (show (true = true ∨ 0 < (L.getD k (0, 0)).2) from .inl rfl)]
        split <;> omega
end Go.Proofs.Ytpgogdnjddeagaa
