/-
  General lemmas of this project's own, second part: structs and arrays of numbers that come in.
-/
import Derived.Test.YtnnggchkdffpnaaDoorKit
namespace Go.Proofs.YtnnggchkdffpnaaDoor
set_option linter.unusedSimpArgs false
set_option linter.unusedVariables false
open Go.RowKit Go.WideShapes Go.ChangeShapes Go.ChangeAt

section
variable {H : Type} {enc : TypeId × Value → H} {P : Program} {w : World} {base : Nat} {sp : Nat → Bool} {held : Bool} {r : Reach} {b0 : Nat}

/-- the cells of a list of readings: each is one number -/
theorem nums_of_cells {k : IntKind} {t0 : TypeId} (h0 : P.underlying t0 = some (.int k)) {m : Nat} :
    ∀ (n : Nat) (l : List Value), l.length = n → (∀ i, i < n → ∃ y, DataW.trod enc P w base sp held m t0 ((l.drop i).take 1) = some y) →
      ∃ xs : List Int, xs.length = n ∧ l = xs.map (Value.int k) ∧ ∀ x ∈ xs, (Lit.int k x).wf = true
  | 0, l, hl, _ => ⟨[], rfl, by simpa using hl, by simp⟩
  | n + 1, [], hl, _ => by simp at hl
  | n + 1, v :: l, hl, h => by
    obtain ⟨y, hy⟩ := h 0 (by omega)
    simp at hy
    obtain ⟨a, ea, _, ha⟩ := DataW.trod_int h0 hy
    simp at ea
    subst ea
    obtain ⟨xs, hx, rfl, hw⟩ := nums_of_cells h0 n l (by simpa using hl) (fun i hi => by simpa using h (i + 1) (by omega))
    exact ⟨a :: xs, by simp [hx], rfl, by simpa using ⟨ha, hw⟩⟩

/-- a struct whose fields are all numbers of one type, by value -/
theorem open_nums_struct {k : IntKind} {t t0 : TypeId} {fs : Array Field} {v : Value} {d : DataW H} {ps : List MemPlace} (n : Nat) (hs : P.underlying t = some (.struct fs)) (h0 : P.underlying t0 = some (.int k))
    (hC : P.cellsOf t = n) (h1 : P.cellsOf t0 = 1) (hf : ∀ i, i < n → (fs[i]?).map (fun f => (f.offset, f.type)) = some (i, t0)) (hv : Value.okWide P w r b0 t v) (h : DataW.Trod enc P w base sp held t v d ps) :
    ∃ xs : List Int, xs.length = n ∧ v = .agg (xs.map (Value.int k)).toArray ∧ ∀ x ∈ xs, (Lit.int k x).wf = true := by
  obtain ⟨cs, rfl, hsz⟩ := okWide_struct hs hv
  obtain ⟨l⟩ := cs
  obtain ⟨fuel, hh⟩ := h
  obtain ⟨ys, m, _, _, _, hlen, hg⟩ := DataW.trod_struct hs hh
  have hl : l.length = n := by simpa [hC] using hsz
  obtain ⟨xs, hx, rfl, hw⟩ := nums_of_cells (m := m) (enc := enc) (w := w) (base := base) (sp := sp) (held := held) h0 n l hl (fun i hi => by
    have := hf i hi
    cases hfi : fs[i]? with
    | none => simp [hfi] at this
    | some f =>
      simp [hfi] at this
      have hg' := hg i f hfi
      rw [this.1, this.2, h1] at hg'
      have hi2 : i < ys.length := by rw [hlen]; exact (Array.getElem?_eq_some_iff.1 hfi).1
      exact ⟨ys[i], by simpa [Value.cells, List.getElem?_eq_getElem hi2] using hg'⟩)
  exact ⟨xs, hx, rfl, hw⟩

/-- an array of numbers, by value -/
theorem open_nums_array {k : IntKind} {t t0 : TypeId} {v : Value} {d : DataW H} {ps : List MemPlace} (n : Nat) (hs : P.underlying t = some (.array n t0)) (h0 : P.underlying t0 = some (.int k))
    (hC : P.cellsOf t = n) (h1 : P.cellsOf t0 = 1) (hv : Value.okWide P w r b0 t v) (h : DataW.Trod enc P w base sp held t v d ps) :
    ∃ xs : List Int, xs.length = n ∧ v = .agg (xs.map (Value.int k)).toArray ∧ ∀ x ∈ xs, (Lit.int k x).wf = true := by
  obtain ⟨fuel, hh⟩ := h
  obtain ⟨ys, m, _, _, hlen, hxl, hi⟩ := DataW.trod_array hs hh
  have hagg : ∃ cs, v = .agg cs := by
    simp only [Value.okWide, hs] at hv
    obtain ⟨cs, h1, _⟩ := hv
    exact ⟨cs, h1⟩
  obtain ⟨⟨l⟩, rfl⟩ := hagg
  rw [hC] at hlen
  simp only [Value.cells] at hlen hi
  rw [h1] at hi
  obtain ⟨xs, hx, rfl, hw⟩ := nums_of_cells (m := m) (enc := enc) (w := w) (base := base) (sp := sp) (held := held) h0 n l (by simpa using hlen) (fun i hin => by
    have := hi i hin
    have hi2 : i < ys.length := by omega
    exact ⟨ys[i], by simpa [List.getElem?_eq_getElem hi2] using this⟩)
  exact ⟨xs, hx, rfl, hw⟩
end

theorem bcell {W w1 : World} (hb : Below W.heap.size W w1) : (∀ b o, b < W.heap.size → w1.cell? ⟨b, o, none⟩ = W.cell? ⟨b, o, none⟩) ∧ (∀ b o, b < W.heap.size → w1.frozen? ⟨b, o, none⟩ = W.frozen? ⟨b, o, none⟩) :=
  ⟨fun b o h => hb.cell (p := ⟨b, o, none⟩) h, fun b o h => hb.frozen (p := ⟨b, o, none⟩) h⟩
theorem cell_keep {w w' : World} {n k : Nat} {v : Value} (h : w.cell? ⟨n, k, none⟩ = some v) (hn : n < w.heap.size) (hb : Below w.heap.size w w') : w'.cell? ⟨n, k, none⟩ = some v := by
  rw [(bcell hb).1 _ _ hn, h]
theorem free_keep {w w' : World} {n k : Nat} {v : Bool} (h : w.frozen? ⟨n, k, none⟩ = v) (hn : n < w.heap.size) (hb : Below w.heap.size w w') : w'.frozen? ⟨n, k, none⟩ = v := by
  rw [(bcell hb).2 _ _ hn, h]
theorem below_box {w w1 : World} {o : Obj} (hb : Below (w.alloc o).heap.size (w.alloc o) w1) : Below w.heap.size w w1 := ((Below.refl _ _).alloc (Nat.le_refl _) _).trans (hb.mono (by simp))
theorem ret_bb {a b : Bool} (h : a = b) : Ending.returned (.bool a) = .returned (.bool b) := by rw [h]
end Go.Proofs.YtnnggchkdffpnaaDoor
