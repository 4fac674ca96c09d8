/-
  Lines of a posting as values, and in memory.
-/
import Derived.Test.YtkbikflincjhhaaKitF
import Derived.Test.YtkbikflincjhhaaKitP
namespace Go.Proofs.Ytkbikflincjhhaa
set_option linter.unusedSimpArgs false
set_option linter.unusedVariables false
open Go.RowKit Go.WideShapes Go.ChangeShapes Go.ChangeAt Go.Deep

/-- a number that an int64 holds -/
def inR (x : Int) : Prop := -9223372036854775808 ≤ x ∧ x ≤ 9223372036854775807
structure LnM where
  c : Int
  n : Int
deriving DecidableEq
def ln0 : LnM := ⟨0, 0⟩
def lnC (x : LnM) : List Value := [.int .i64 x.c, .int .i64 x.n]
theorem lnC_length (x : LnM) : (lnC x).length = 2 := rfl
theorem lnsC_length (L : List LnM) : (L.flatMap lnC).length = L.length * 2 := flat_length lnC 2 lnC_length L
theorem lnC_one (x : LnM) : ∀ u ∈ lnC x, u.oneCell' = true := by
  intro u hu
  simp [lnC] at hu
  rcases hu with rfl | rfl <;> rfl
def LnOk (x : LnM) : Prop := inR x.c ∧ inR x.n
/-- lines in memory -/
def LnIn (w : World) (a : Option Addr) (L : List LnM) : Prop := ∀ i, i < L.length → ∃ b off, a = some ⟨b, off, none⟩ ∧ b < w.heap.size ∧ w.cell? ⟨b, off + i * 2, none⟩ = some (.int .i64 (L.getD i ln0).c) ∧ w.cell? ⟨b, off + i * 2 + 1, none⟩ = some (.int .i64 (L.getD i ln0).n)
theorem LnIn.below {w w' : World} {a : Option Addr} {L : List LnM} (h : LnIn w a L) (hb : Below w.heap.size w w') : LnIn w' a L := fun i hi => by
  obtain ⟨b, off, ha, hbl, c0, c1⟩ := h i hi
  exact ⟨b, off, ha, Nat.lt_of_lt_of_le hbl hb.size, cell_keep c0 hbl hb, cell_keep c1 hbl hb⟩
theorem LnIn.take {w : World} {a : Option Addr} {L : List LnM} (h : LnIn w a L) (k : Nat) : LnIn w a (L.take k) := fun i hi => by
  rw [List.length_take] at hi
  obtain ⟨b, off, ha, hbl, c0, c1⟩ := h i (by omega)
  rw [show (L.take k).getD i ln0 = L.getD i ln0 by simp [List.getD, List.getElem?_take, show i < k by omega]]
  exact ⟨b, off, ha, hbl, c0, c1⟩
theorem LnIn.of_owns {w : World} {B e c : Nat} {a : Option Addr} {L : List LnM} (h : w.ownsRow B e 2 (.slice a L.length c) L.length (L.flatMap lnC)) : LnIn w a L := fun i hi => by
  obtain ⟨g, rfl, -, hg, hc⟩ := owns_rows lnC lnC_length ln0 h i hi
  refine ⟨g, 0, rfl, hg, ?_, ?_⟩
  · have h1 := hc 0 (by decide)
    rw [Nat.zero_add]
    exact h1
  · have h1 := hc 1 (by decide)
    rw [Nat.zero_add]
    exact h1
/-- lines in memory, in a block from B on -/
def LnFrom (B : Nat) (w : World) (a : Option Addr) (L : List LnM) : Prop := ∀ i, i < L.length → ∃ b off, a = some ⟨b, off, none⟩ ∧ B ≤ b ∧ b < w.heap.size ∧ w.cell? ⟨b, off + i * 2, none⟩ = some (.int .i64 (L.getD i ln0).c) ∧ w.cell? ⟨b, off + i * 2 + 1, none⟩ = some (.int .i64 (L.getD i ln0).n)
theorem LnFrom.in {B : Nat} {w : World} {a : Option Addr} {L : List LnM} (h : LnFrom B w a L) : LnIn w a L := fun i hi => by
  obtain ⟨b, off, h1, -, h3⟩ := h i hi
  exact ⟨b, off, h1, h3⟩
theorem LnFrom.nil (B : Nat) (w : World) (a : Option Addr) : LnFrom B w a [] := fun i hi => absurd hi (Nat.not_lt_zero i)
theorem LnFrom.mono {B C : Nat} {w : World} {a : Option Addr} {L : List LnM} (h : LnFrom B w a L) (hC : C ≤ B) : LnFrom C w a L := fun i hi => by
  obtain ⟨b, off, h1, h2, h3⟩ := h i hi
  exact ⟨b, off, h1, by omega, h3⟩
theorem LnFrom.set {B : Nat} {w : World} {a : Option Addr} {L : List LnM} (h : LnFrom B w a L) {g : Nat} (hg : g < B) (j : Nat) (v : Value) : LnFrom B (w.setCell ⟨g, j, none⟩ v) a L := fun i hi => by
  obtain ⟨b, off, h1, h2, h3, c0, c1⟩ := h i hi
  have hb : (w.setCell ⟨g, j, none⟩ v).heap[b]? = w.heap[b]? := block_setCell_other (by omega) j v
  refine ⟨b, off, h1, h2, by simpa using h3, ?_, ?_⟩
  · simp only [World.cell?, hb] at c0 ⊢; exact c0
  · simp only [World.cell?, hb] at c1 ⊢; exact c1
theorem LnFrom.below {B : Nat} {w w' : World} {a : Option Addr} {L : List LnM} (h : LnFrom B w a L) (hb : Below w.heap.size w w') : LnFrom B w' a L := fun i hi => by
  obtain ⟨b, off, ha, hB, hbl, c0, c1⟩ := h i hi
  exact ⟨b, off, ha, hB, Nat.lt_of_lt_of_le hbl hb.size, cell_keep c0 hbl hb, cell_keep c1 hbl hb⟩
theorem LnFrom.of_owns {w : World} {B e c : Nat} {a : Option Addr} {L : List LnM} (h : w.ownsRow B e 2 (.slice a L.length c) L.length (L.flatMap lnC)) : LnFrom B w a L := fun i hi => by
  obtain ⟨g, rfl, hB, hg, hc⟩ := owns_rows lnC lnC_length ln0 h i hi
  refine ⟨g, 0, rfl, hB, hg, ?_, ?_⟩
  · have h1 := hc 0 (by decide)
    rw [Nat.zero_add]
    exact h1
  · have h1 := hc 1 (by decide)
    rw [Nat.zero_add]
    exact h1
theorem ln_mem (L : List LnM) (k : Nat) (h : k < L.length) : L.getD k ln0 ∈ L := by simp [List.getD, h]
theorem ln_next (L : List LnM) (k : Nat) (h : k < L.length) : L.take (k + 1) = L.take k ++ [L.getD k ln0] := by
  rw [List.take_add_one, List.getElem?_eq_getElem h]
  simp [List.getD, h]
end Go.Proofs.Ytkbikflincjhhaa
