/-
  General lemmas of this project's own, sixteenth part: a slice of structs that is a field of a struct that comes in.
-/
import Derived.Test.YtnnggchkdffpnaaDoorKitE
namespace Go.Proofs.YtnnggchkdffpnaaDoor
set_option linter.unusedSimpArgs false
set_option linter.unusedVariables false
open Go.RowKit Go.WideShapes Go.ChangeShapes Go.ChangeAt Go.Deep
section
variable {H : Type} {enc : TypeId × Value → H} {P : Program} {w : World} {base : Nat} {sp : Nat → Bool} {held : Bool} {r : Reach} {b0 : Nat}
theorem open_rows_in {m0 : Nat} {t e : TypeId} {fs : Array Field} {v : Value} {y : DataW H × List MemPlace} (ds : List TypeDesc) (ht : P.underlying t = some (.slice e)) (he : P.underlying e = some (.struct fs))
    (hone : oneCellFields P fs = true) (hC : P.cellsOf e = fs.size) (hz : 0 < fs.size) (hds : ds.length = fs.size) (hty : ∀ j, j < fs.size → (fs[j]?).bind (fun f => P.underlying f.type) = ds[j]?)
    (hh : DataW.trod enc P w base sp held m0 t [v] = some y) :
    ∃ L : List (List Value), RowsAt w v fs.size L ∧ ∀ x ∈ L, x.length = fs.size ∧ ∀ (j : Nat) c u, ds[j]? = some c → x[j]? = some u → CellIs c u := by
  obtain ⟨d, ps⟩ := y
  rcases open_slice ht hh with ⟨hcs, _⟩ | ⟨a', len', cap', m, n, D, Pl, hcs, _, hl, hm, hmm, _, hi⟩
  · simp at hcs
    subst hcs
    exact ⟨[], ⟨none, 0, rfl, by simp, by simp, by simp, by simp⟩, by simp⟩
  · simp at hcs
    subst hcs
    have hlm : len' ≤ m := by rw [hmm]; split <;> omega
    obtain ⟨L, hL, hp⟩ := list_of_all (α := List Value) [] (fun i cs' => cs'.length = fs.size ∧ (∀ j, j < fs.size → w.cell? (a'.add (i * fs.size + j)) = cs'[j]?) ∧ ∀ (j : Nat) c u, ds[j]? = some c → cs'[j]? = some u → CellIs c u) len' (fun i hil => by
      obtain ⟨cs', h1, h2⟩ := hi i (by omega)
      rw [hC] at h1
      obtain ⟨_, hcl, hat⟩ := World.cells?_some h1
      obtain ⟨ys, n', _, _, _, hyl, hf⟩ := DataW.trod_struct he h2
      refine ⟨cs', hcl, fun j hj => by rw [← Go.Deep.add_add]; exact hat j hj, fun j c u hc hu => ?_⟩
      have hj : j < fs.size := by rw [← hds]; exact (List.getElem?_eq_some_iff.1 hc).1
      have ht' := hty j hj
      rw [hc] at ht'
      cases hfj : fs[j]? with
      | none => rw [hfj] at ht'; cases ht'
      | some f =>
        rw [hfj] at ht'
        obtain ⟨ho, hk⟩ := hone_of hone j f hfj
        have h3 := hf j f hfj
        rw [ho, hk] at h3
        have hone' : (cs'.drop j).take 1 = [u] := by
          obtain ⟨hj2, rfl⟩ := List.getElem?_eq_some_iff.1 hu
          rw [List.drop_eq_getElem_cons hj2]
          rfl
        rw [hone'] at h3
        have hys : ys[j]? = some (ys[j]'(by omega)) := List.getElem?_eq_getElem (by omega)
        exact cellIs_of (by simpa using ht') (h3.trans hys))
    refine ⟨L, ⟨some a', cap', by rw [hL], by rw [hL]; omega, by rw [hL]; omega, hm, fun i hiL => ?_⟩, fun x hx => ?_⟩
    · obtain ⟨h1, h2, _⟩ := hp i (by omega)
      have h0 := h2 0 hz
      have hu : (L.getD i [])[0]? = some ((L.getD i [])[0]'(by omega)) := List.getElem?_eq_getElem (by omega)
      rw [hu] at h0
      have hspot : a'.spot = none := by
        obtain ⟨g1, g2, _⟩ := hp 0 (by omega)
        have h00 := g2 0 hz
        rw [List.getElem?_eq_getElem (show 0 < (L.getD 0 []).length by omega)] at h00
        have := World.cell?_spot h00
        simpa [Addr.add] using this
      have hblt := World.block_lt_of_cell? w _ h0
      obtain ⟨b, off, spot⟩ := a'
      have hs : spot = none := hspot
      subst hs
      refine ⟨b, off, rfl, ?_, fun j hj => by rw [← Go.WideShapes.add_plain]; exact h2 j hj⟩
      rw [Go.WideShapes.add_plain] at hblt
      exact hblt
    · obtain ⟨i, hi2, rfl⟩ := List.getElem_of_mem hx
      have := hp i (by omega)
      have e1 : L.getD i [] = L[i] := by simp [List.getD, hi2]
      rw [e1] at this
      exact ⟨this.1, this.2.2⟩
end
end Go.Proofs.YtnnggchkdffpnaaDoor
