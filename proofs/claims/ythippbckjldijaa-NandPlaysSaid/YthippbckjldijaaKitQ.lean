/-
  General lemmas of this project's own, twelfth part: rows of structs in memory, by what each has, place by place.
-/
import Derived.Test.YthippbckjldijaaKitP
namespace Go.Proofs.Ythippbckjldijaa
set_option linter.unusedSimpArgs false
set_option linter.unusedVariables false
open Go.RowKit

/-- block q is rows of n cells: the k-th has the cells f tells of the k-th of these -/
structure RwAt {α : Type} (w : World) (q : Nat) (T : TypeId) (n : Nat) (f : Nat → α → List Value) (d : α) (L : List α) : Prop where
  ex : ∃ cs : Array Value, w.heap[q]? = some (.cells cs T (0, 0)) ∧ cs.size = L.length * n ∧ ∀ k, k < L.length → ∀ j, j < n → cs[k * n + j]? = (f k (L.getD k d))[j]?
theorem RwAt.lt {α : Type} {w : World} {q : Nat} {T : TypeId} {n : Nat} {f : Nat → α → List Value} {d : α} {L : List α} (h : RwAt w q T n f d L) : q < w.heap.size := by
  obtain ⟨cs, h1, -⟩ := h.ex
  exact heap_lt h1
theorem RwAt.at {α : Type} {w : World} {q : Nat} {T : TypeId} {n : Nat} {f : Nat → α → List Value} {d : α} {L : List α} (h : RwAt w q T n f d L) (k : Nat) (hk : k < L.length) (j : Nat) (hj : j < n) : w.cell? ⟨q, k * n + j, none⟩ = (f k (L.getD k d))[j]? := by
  obtain ⟨cs, h1, h2, h3⟩ := h.ex
  rw [cell_of_block h1]
  exact h3 k hk j hj
theorem RwAt.free {α : Type} {w : World} {q : Nat} {T : TypeId} {n : Nat} {f : Nat → α → List Value} {d : α} {L : List α} (h : RwAt w q T n f d L) (j : Nat) : w.frozen? ⟨q, j, none⟩ = false := by
  obtain ⟨cs, h1, -⟩ := h.ex
  exact frozen_of_block h1 j
theorem RwAt.kept {α : Type} {w w' : World} {q : Nat} {T : TypeId} {n : Nat} {f : Nat → α → List Value} {d : α} {L : List α} (h : RwAt w q T n f d L) (hb : w'.heap[q]? = w.heap[q]?) : RwAt w' q T n f d L := by
  obtain ⟨cs, h1, h2⟩ := h.ex
  exact ⟨cs, hb.trans h1, h2⟩
theorem RwAt.below {α : Type} {w w' : World} {q : Nat} {T : TypeId} {n : Nat} {f : Nat → α → List Value} {d : α} {L : List α} (h : RwAt w q T n f d L) (hb : Below w.heap.size w w') : RwAt w' q T n f d L := h.kept (hb.block q h.lt)
theorem RwAt.other {α : Type} {w : World} {q : Nat} {T : TypeId} {n : Nat} {f : Nat → α → List Value} {d : α} {L : List α} (h : RwAt w q T n f d L) {g : Nat} (hg : g ≠ q) (j : Nat) (v : Value) : RwAt (w.setCell ⟨g, j, none⟩ v) q T n f d L := h.kept (block_setCell_other hg j v)
/-- blocks of unlike types are two -/
theorem rows_apart {α β : Type} {w : World} {q q' : Nat} {T T' : TypeId} {n n' : Nat} {f : Nat → α → List Value} {f' : Nat → β → List Value} {d : α} {d' : β} {L : List α} {L' : List β} (h : RwAt w q T n f d L) (h' : RwAt w q' T' n' f' d' L') (hT : T ≠ T') : q ≠ q' := fun e => by
  subst e
  obtain ⟨cs, h1, -⟩ := h.ex
  obtain ⟨cs', h1', -⟩ := h'.ex
  rw [h1] at h1'
  have h2 := Option.some.inj h1'
  injection h2 with _ h3
  exact hT h3
theorem rows_apart_head {α : Type} {w : World} {q p : Nat} {T T' : TypeId} {n : Nat} {f : Nat → α → List Value} {d : α} {L : List α} {c : Array Value} (h : RwAt w q T n f d L) (h' : w.heap[p]? = some (.cells c T' (0, 0))) (hT : T ≠ T') : q ≠ p := fun e => by
  subst e
  obtain ⟨cs, h1, -⟩ := h.ex
  rw [h1] at h'
  have h2 := Option.some.inj h'
  injection h2 with _ h3
  exact hT h3
theorem place_inj {n k k' j j' : Nat} (hj : j < n) (hj' : j' < n) (h : k * n + j = k' * n + j') : k = k' ∧ j = j' := by
  have h1 : (k * n + j) / n = k := by rw [Nat.mul_comm, Nat.mul_add_div (by omega), Nat.div_eq_of_lt hj, Nat.add_zero]
  have h2 : (k' * n + j') / n = k' := by rw [Nat.mul_comm, Nat.mul_add_div (by omega), Nat.div_eq_of_lt hj', Nat.add_zero]
  have h3 : k = k' := by rw [← h1, ← h2, h]
  subst h3
  exact ⟨rfl, by omega⟩
theorem getD_set_self {α : Type} (L : List α) (k : Nat) (x d : α) (hk : k < L.length) : (L.set k x).getD k d = x := by simp [List.getD, hk]
theorem getD_set_other {α : Type} (L : List α) (k i : Nat) (x d : α) (hi : i ≠ k) : (L.set k x).getD i d = L.getD i d := by simp [List.getD, List.getElem?_set, Ne.symm hi]
/-- one cell of one row is turned -/
theorem RwAt.set {α : Type} {w : World} {q : Nat} {T : TypeId} {n : Nat} {f : Nat → α → List Value} {d : α} {L : List α} (h : RwAt w q T n f d L) (k : Nat) (hk : k < L.length) (j : Nat) (hj : j < n) (v : Value) (x : α) (hx : f k x = (f k (L.getD k d)).set j v) (hl : j < (f k (L.getD k d)).length) : RwAt (w.setCell ⟨q, k * n + j, none⟩ v) q T n f d (L.set k x) := by
  obtain ⟨cs, h1, h2, h3⟩ := h.ex
  refine ⟨_, block_setCell h1 _ _, by simp [h2], fun k' hk' j' hj' => ?_⟩
  rw [List.length_set] at hk'
  have hin : k * n + j < cs.size := by
    rw [h2]
    have : (k + 1) * n ≤ L.length * n := Nat.mul_le_mul_right n hk
    rw [Nat.add_mul] at this
    omega
  by_cases hkk : k' = k
  · subst hkk
    rw [getD_set_self L k' x d hk, hx]
    by_cases hjj : j' = j
    · subst hjj
      rw [Array.getElem?_setIfInBounds, if_pos rfl, if_pos hin, List.getElem?_set, if_pos rfl, if_pos hl]
    · rw [Array.getElem?_setIfInBounds, if_neg (by omega), List.getElem?_set, if_neg (fun e => hjj e.symm)]
      exact h3 k' hk' j' hj'
  · rw [getD_set_other L k k' x d hkk, Array.getElem?_setIfInBounds, if_neg (fun e => hkk (place_inj hj hj' e).1.symm)]
    exact h3 k' hk' j' hj'
theorem below_drewN {B : Nat} {a b : World} (h : Below B a b) (n : Nat) : Below B a (b.drewN n) := ⟨h.os, h.tape, h.output, h.size, h.block⟩
end Go.Proofs.Ythippbckjldijaa
