/-
  General lemmas of this project's own, sixth part: rows of rows, one behind the other.
-/
import Derived.Test.YtnnggchkdffpnaaDoorKitE
namespace Go.Proofs.YtnnggchkdffpnaaDoor
set_option linter.unusedSimpArgs false
set_option linter.unusedVariables false
open Go.RowKit

theorem flat_length {α : Type} (f : α → List Value) (n : Nat) (hf : ∀ x, (f x).length = n) : ∀ L : List α, (L.flatMap f).length = L.length * n
  | [] => by simp
  | x :: L => by rw [List.flatMap_cons, List.length_append, hf, flat_length f n hf L, List.length_cons, Nat.succ_mul]; omega
theorem flat_at {α : Type} (f : α → List Value) (n : Nat) (hf : ∀ x, (f x).length = n) (d : α) : ∀ (L : List α) (i j : Nat), i < L.length → j < n → (L.flatMap f)[i * n + j]? = (f (L.getD i d))[j]?
  | [], i, j, h, _ => by simp at h
  | x :: L, 0, j, _, hj => by
    rw [List.flatMap_cons, List.getElem?_append_left (by rw [hf]; omega)]
    simp
  | x :: L, i + 1, j, h, hj => by
    rw [List.flatMap_cons, List.getElem?_append_right (by rw [hf, Nat.succ_mul]; omega), hf, show (i + 1) * n + j - n = i * n + j by rw [Nat.succ_mul]; omega,
      flat_at f n hf d L i j (by simpa using h) hj]
    simp
theorem flat_snoc {α : Type} (f : α → List Value) (L : List α) (x : α) : (L ++ [x]).flatMap f = L.flatMap f ++ f x := by simp
/-- the cells of an owned row of rows -/
theorem owns_rows {α : Type} {w : World} {B e n m : Nat} {a : Option Addr} {cap : Nat} (f : α → List Value) (hf : ∀ x, (f x).length = n) (d : α) {L : List α} (h : w.ownsRow B e n (.slice a m cap) L.length (L.flatMap f)) (i : Nat) (hi : i < L.length) :
    ∃ g, a = some ⟨g, 0, none⟩ ∧ B ≤ g ∧ g < w.heap.size ∧ ∀ j, j < n → w.cell? ⟨g, i * n + j, none⟩ = (f (L.getD i d))[j]? := by
  rcases h.2 with ⟨hv, hn⟩ | ⟨g, cap', cur, hv, hB, hg, hnc, _, hsz, hx⟩
  · omega
  · simp only [Value.slice.injEq] at hv
    obtain ⟨rfl, _, rfl⟩ := hv
    refine ⟨g, rfl, hB, heap_lt hg, fun j hj => ?_⟩
    rw [cell_of_block hg, ← flat_at f n hf d L i j hi hj, ← hx, List.getElem?_take, if_pos ?_]
    · simp
    · have := Nat.mul_le_mul_right n (show i + 1 ≤ L.length from hi)
      rw [Nat.succ_mul] at this
      omega
theorem owns_slice_n {w : World} {B e n m : Nat} {v : Value} {xs : List Value} (h : w.ownsRow B e m v n xs) : ∃ a cap, v = .slice a n cap := by
  rcases h.2 with ⟨rfl, rfl⟩ | ⟨g, cap, cur, rfl, _⟩
  · exact ⟨none, 0, rfl⟩
  · exact ⟨_, cap, rfl⟩
theorem owns_below {w w' : World} {B e n m : Nat} {v : Value} {xs : List Value} (h : w.ownsRow B e m v n xs) (hb : Below w.heap.size w w') : w'.ownsRow B e m v n xs := by
  refine ⟨h.1, ?_⟩
  rcases h.2 with h3 | ⟨g, cap', cur, hv, hg, hh, h4⟩
  · exact .inl h3
  · exact .inr ⟨g, cap', cur, hv, hg, by rw [hb.block g (heap_lt hh)]; exact hh, h4⟩
end Go.Proofs.YtnnggchkdffpnaaDoor
