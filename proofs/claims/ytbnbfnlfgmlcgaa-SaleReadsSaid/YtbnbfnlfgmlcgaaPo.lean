/-
  Lines of a posting as values, and in memory.
-/
import Derived.Test.YtbnbfnlfgmlcgaaPost
import Derived.Test.YtbnbfnlfgmlcgaaKitP
namespace Go.Proofs.Ytbnbfnlfgmlcgaa
set_option linter.unusedSimpArgs false
set_option linter.unusedVariables false
open Go.RowKit Go.WideShapes Go.ChangeShapes Go.ChangeAt Go.Deep

/-- lines in memory, in a block from B on -/
def LnFrom (B : Nat) (w : World) (a : Option Addr) (L : List LnM) : Prop := ∀ i, i < L.length → ∃ b off, a = some ⟨b, off, none⟩ ∧ B ≤ b ∧ b < w.heap.size ∧ w.cell? ⟨b, off + i * 2, none⟩ = some (.int .i64 (L.getD i ln0).c) ∧ w.cell? ⟨b, off + i * 2 + 1, none⟩ = some (.int .i64 (L.getD i ln0).n)
theorem LnFrom.in {B : Nat} {w : World} {a : Option Addr} {L : List LnM} (h : LnFrom B w a L) : LnIn w a L := fun i hi => by
  obtain ⟨b, off, h1, -, h3⟩ := h i hi
  exact ⟨b, off, h1, h3⟩
theorem LnFrom.nil (B : Nat) (w : World) (a : Option Addr) : LnFrom B w a [] := fun i hi => absurd hi (Nat.not_lt_zero i)
theorem LnFrom.mono {B C : Nat} {w : World} {a : Option Addr} {L : List LnM} (h : LnFrom B w a L) (hC : C ≤ B) : LnFrom C w a L := fun i hi => by
  obtain ⟨b, off, h1, h2, h3⟩ := h i hi
  exact ⟨b, off, h1, by omega, h3⟩
theorem LnFrom.set {B : Nat} {w : World} {a : Option Addr} {L : List LnM} (h : LnFrom B w a L) {g : Nat} (hg : g < B) (j : Nat) (v : Value) : LnFrom B (w.setCell ⟨g, j, none⟩ v) a L := fun i hi => by
  obtain ⟨b, off, h1, h2, h3, c0, c1⟩ := h i hi
  have hb : (w.setCell ⟨g, j, none⟩ v).heap[b]? = w.heap[b]? := block_setCell_other (by omega) j v
  refine ⟨b, off, h1, h2, by simpa using h3, ?_, ?_⟩
  · simp only [World.cell?, hb] at c0 ⊢; exact c0
  · simp only [World.cell?, hb] at c1 ⊢; exact c1
theorem LnFrom.below {B : Nat} {w w' : World} {a : Option Addr} {L : List LnM} (h : LnFrom B w a L) (hb : Below w.heap.size w w') : LnFrom B w' a L := fun i hi => by
  obtain ⟨b, off, ha, hB, hbl, c0, c1⟩ := h i hi
  exact ⟨b, off, ha, hB, Nat.lt_of_lt_of_le hbl hb.size, cell_keep c0 hbl hb, cell_keep c1 hbl hb⟩
theorem LnFrom.of_owns {w : World} {B e c : Nat} {a : Option Addr} {L : List LnM} (h : w.ownsRow B e 2 (.slice a L.length c) L.length (L.flatMap lnC)) : LnFrom B w a L := fun i hi => by
  obtain ⟨g, rfl, hB, hg, hc⟩ := owns_rows lnC lnC_length ln0 h i hi
  refine ⟨g, 0, rfl, hB, hg, ?_, ?_⟩
  · have h1 := hc 0 (by decide)
    rw [Nat.zero_add]
    exact h1
  · have h1 := hc 1 (by decide)
    rw [Nat.zero_add]
    exact h1
/-- lines in a block of a type of lines, from B on -/
def LnTy (t : TypeId) (B : Nat) (w : World) (a : Option Addr) (L : List LnM) : Prop := ∀ i, i < L.length → ∃ (b off : Nat) (c : Array Value) (fz : Nat × Nat), a = some ⟨b, off, none⟩ ∧ B ≤ b ∧ w.heap[b]? = some (.cells c t fz) ∧ c[off + i * 2]? = some (.int .i64 (L.getD i ln0).c) ∧ c[off + i * 2 + 1]? = some (.int .i64 (L.getD i ln0).n)
theorem LnTy.lnIn {t : TypeId} {B : Nat} {w : World} {a : Option Addr} {L : List LnM} (h : LnTy t B w a L) : LnIn w a L := fun i hi => by
  obtain ⟨b, off, c, fz, ha, _, hb, h1, h2⟩ := h i hi
  exact ⟨b, off, ha, heap_lt hb, (cell_of_block hb _).trans h1, (cell_of_block hb _).trans h2⟩
theorem LnTy.nil (t : TypeId) (B : Nat) (w : World) (a : Option Addr) : LnTy t B w a [] := fun i hi => absurd hi (Nat.not_lt_zero i)
theorem LnTy.keepsT {t : TypeId} {Ts : List TypeId} {B : Nat} {w w' : World} {a : Option Addr} {L : List LnM} (h : LnTy t B w a L) (hk : KeepsT Ts w w') (ht : t ∉ Ts) : LnTy t B w' a L := fun i hi => by
  obtain ⟨b, off, c, fz, ha, hB, hb, h1, h2⟩ := h i hi
  exact ⟨b, off, c, fz, ha, hB, hk.cells hb ht, h1, h2⟩
theorem LnTy.below {t : TypeId} {B : Nat} {w w' : World} {a : Option Addr} {L : List LnM} (h : LnTy t B w a L) (hb : Below w.heap.size w w') : LnTy t B w' a L := fun i hi => by
  obtain ⟨b, off, c, fz, ha, hB, hbk, h1, h2⟩ := h i hi
  exact ⟨b, off, c, fz, ha, hB, (hb.block _ (heap_lt hbk)).trans hbk, h1, h2⟩
theorem LnTy.mono {t : TypeId} {B C : Nat} {w : World} {a : Option Addr} {L : List LnM} (h : LnTy t B w a L) (hC : C ≤ B) : LnTy t C w a L := fun i hi => by
  obtain ⟨b, off, c, fz, ha, hB, h1⟩ := h i hi
  exact ⟨b, off, c, fz, ha, Nat.le_trans hC hB, h1⟩
theorem LnTy.of_owns {t : TypeId} {w : World} {B m c : Nat} {a : Option Addr} {L : List LnM} (h : w.ownsRow B t 2 (.slice a m c) L.length (L.flatMap lnC)) : LnTy t B w a L := fun i hi => by
  rcases h.2 with ⟨hv, hn⟩ | ⟨g, cap', cur, hv, hB, hg, hnc, _, hsz, hx⟩
  · omega
  · simp only [Value.slice.injEq] at hv
    obtain ⟨rfl, -, -⟩ := hv
    have hc : ∀ j, j < 2 → cur[i * 2 + j]? = (lnC (L.getD i ln0))[j]? := fun j hj => by
      rw [← flat_at lnC 2 lnC_length ln0 L i j hi hj, ← hx, List.getElem?_take, if_pos (by omega)]
      simp
    refine ⟨g, 0, cur, (0, 0), rfl, hB, hg, ?_, ?_⟩
    · rw [Nat.zero_add]; exact hc 0 (by decide)
    · rw [Nat.zero_add]; exact hc 1 (by decide)
end Go.Proofs.Ytbnbfnlfgmlcgaa
