/-
  General lemmas of this project's own, fourth part: worlds in which one old block alone may have turned; rows of pairs of numbers.
-/
import Derived.Test.YtnnggchkdffpnaaDoorKitC
namespace Go.Proofs.YtnnggchkdffpnaaDoor
set_option linter.unusedSimpArgs false
set_option linter.unusedVariables false
open Go.RowKit Go.WideShapes Go.ChangeShapes Go.ChangeAt

/-- of what was there, block q alone may have turned -/
structure Only (q : Nat) (w w' : World) : Prop where
  os : w'.os = w.os
  tape : w'.tape = w.tape
  output : w'.output = w.output
  size : w.heap.size ≤ w'.heap.size
  block : ∀ k, k < w.heap.size → k ≠ q → w'.heap[k]? = w.heap[k]?
theorem Only.refl (q : Nat) (w : World) : Only q w w := ⟨rfl, rfl, rfl, Nat.le_refl _, fun _ _ _ => rfl⟩
theorem Only.trans {q : Nat} {a b c : World} (h : Only q a b) (k : Only q b c) : Only q a c :=
  ⟨k.os.trans h.os, k.tape.trans h.tape, k.output.trans h.output, Nat.le_trans h.size k.size, fun j hj hq => (k.block j (Nat.lt_of_lt_of_le hj h.size) hq).trans (h.block j hj hq)⟩
theorem Only.of_below {q : Nat} {a b : World} (h : Below a.heap.size a b) : Only q a b := ⟨h.os, h.tape, h.output, h.size, fun k hk _ => h.block k hk⟩
theorem Only.setCell {a : World} (q j : Nat) (v : Value) : Only q a (a.setCell ⟨q, j, none⟩ v) :=
  ⟨rfl, rfl, rfl, by simp, fun k _ hq => block_setCell_other (Ne.symm hq) j v⟩
theorem Only.below {q B : Nat} {a b c : World} (h : Only q b c) (k : Below B a b) (hB : B ≤ q) (hs : B ≤ b.heap.size) : Below B a c :=
  k.trans ⟨h.os, h.tape, h.output, h.size, fun j hj => h.block j (by omega) (by omega)⟩
theorem Only.drew {q : Nat} {a b : World} (h : Only q a b) : Only q a b.drew := ⟨h.os, h.tape, h.output, h.size, h.block⟩
theorem heap_new (w : World) (o : Obj) : (w.alloc o).heap[w.heap.size]? = some o := by show (w.heap.push o)[w.heap.size]? = some o; simp
theorem heap_lt {w : World} {k : Nat} {o : Obj} (h : w.heap[k]? = some o) : k < w.heap.size := (Array.getElem?_eq_some_iff.1 h).1
theorem heap_old (w : World) (o : Obj) (k : Nat) (h : k < w.heap.size) : (w.alloc o).heap[k]? = w.heap[k]? := Below.heap_alloc w o k h

/-- pairs of numbers, one behind the other -/
def flat2 (L : List (Int × Int)) : List Value := L.flatMap fun x => [.int .i64 x.1, .int .i64 x.2]
theorem flat2_cons (x : Int × Int) (L : List (Int × Int)) : flat2 (x :: L) = .int .i64 x.1 :: .int .i64 x.2 :: flat2 L := rfl
theorem flat2_length (L : List (Int × Int)) : (flat2 L).length = L.length * 2 := by
  induction L with
  | nil => rfl
  | cons x L ih => rw [flat2_cons]; simp [ih]; omega
theorem flat2_fst : ∀ (L : List (Int × Int)) (i : Nat), i < L.length → (flat2 L)[i * 2]? = some (.int .i64 (L.getD i (0, 0)).1)
  | [], i, h => by simp at h
  | x :: L, 0, h => by simp [flat2_cons]
  | x :: L, i + 1, h => by
    have := flat2_fst L i (by simpa using h)
    rw [flat2_cons, show (i + 1) * 2 = i * 2 + 1 + 1 by omega]
    simpa using this
theorem flat2_snd : ∀ (L : List (Int × Int)) (i : Nat), i < L.length → (flat2 L)[i * 2 + 1]? = some (.int .i64 (L.getD i (0, 0)).2)
  | [], i, h => by simp at h
  | x :: L, 0, h => by simp [flat2_cons]
  | x :: L, i + 1, h => by
    have := flat2_snd L i (by simpa using h)
    rw [flat2_cons, show (i + 1) * 2 + 1 = i * 2 + 1 + 1 + 1 by omega]
    simpa using this
theorem flat2_set_fst : ∀ (L : List (Int × Int)) (i : Nat) (v : Int), i < L.length → (flat2 L).set (i * 2) (.int .i64 v) = flat2 (L.set i (v, (L.getD i (0, 0)).2))
  | [], i, v, h => by simp at h
  | x :: L, 0, v, h => by simp [flat2_cons]
  | x :: L, i + 1, v, h => by
    have := flat2_set_fst L i v (by simpa using h)
    rw [flat2_cons, show (i + 1) * 2 = i * 2 + 1 + 1 by omega]
    simpa [flat2_cons] using this
theorem flat2_set_snd : ∀ (L : List (Int × Int)) (i : Nat) (v : Int), i < L.length → (flat2 L).set (i * 2 + 1) (.int .i64 v) = flat2 (L.set i ((L.getD i (0, 0)).1, v))
  | [], i, v, h => by simp at h
  | x :: L, 0, v, h => by simp [flat2_cons]
  | x :: L, i + 1, v, h => by
    have := flat2_set_snd L i v (by simpa using h)
    rw [flat2_cons, show (i + 1) * 2 + 1 = i * 2 + 1 + 1 + 1 by omega]
    simpa [flat2_cons] using this
end Go.Proofs.YtnnggchkdffpnaaDoor
