/-
  A struct that comes in by value, its fields of one cell each.
-/
import Derived.Test.YtoigejgpagoghaaKitE
namespace Go.Proofs.Ytoigejgpagoghaa
set_option linter.unusedSimpArgs false
set_option linter.unusedVariables false
open Go.RowKit Go.WideShapes Go.ChangeShapes Go.ChangeAt Go.Deep
section
variable {H : Type} {P : Program} {enc : TypeId × Value → H} {w : World} {base : Nat} {sp : Nat → Bool} {held : Bool} {r : Reach} {b0 : Nat}
theorem open_cells_struct {t : TypeId} {fs : Array Field} {v : Value} {d : DataW H} {ps : List MemPlace} (ds : List TypeDesc) (he : P.underlying t = some (.struct fs))
    (hone : oneCellFields P fs = true) (hC : P.cellsOf t = fs.size) (hds : ds.length = fs.size) (hty : ∀ j, j < fs.size → (fs[j]?).bind (fun f => P.underlying f.type) = ds[j]?)
    (hv : Value.okWide P w r b0 t v) (h : DataW.Trod enc P w base sp held t v d ps) :
    ∃ x : List Value, v = .agg x.toArray ∧ x.length = fs.size ∧ ∀ (j : Nat) c u, ds[j]? = some c → x[j]? = some u → CellIs c u := by
  obtain ⟨cs, rfl, hsz⟩ := okWide_struct he hv
  obtain ⟨l⟩ := cs
  obtain ⟨fuel, hh⟩ := h
  obtain ⟨ys, n', _, _, _, hyl, hf⟩ := DataW.trod_struct he hh
  have hl : l.length = fs.size := by simpa [hC] using hsz
  refine ⟨l, rfl, hl, fun j c u hc hu => ?_⟩
  have hj : j < fs.size := by rw [← hds]; exact (List.getElem?_eq_some_iff.1 hc).1
  have ht' := hty j hj
  rw [hc] at ht'
  cases hfj : fs[j]? with
  | none => rw [hfj] at ht'; cases ht'
  | some f =>
    rw [hfj] at ht'
    obtain ⟨ho, hk⟩ := hone_of hone j f hfj
    have h3 := hf j f hfj
    rw [ho, hk] at h3
    have hone' : (l.drop j).take 1 = [u] := by
      obtain ⟨hj2, rfl⟩ := List.getElem?_eq_some_iff.1 hu
      rw [List.drop_eq_getElem_cons hj2]
      rfl
    simp only [Value.cells] at h3
    rw [hone'] at h3
    have hys : ys[j]? = some (ys[j]'(by omega)) := List.getElem?_eq_getElem (by omega)
    exact cellIs_of (by simpa using ht') (h3.trans hys)
end
end Go.Proofs.Ytoigejgpagoghaa
