/-
  General lemmas of this project's own, third part: slices of numbers that come in; blocks that are known whole.
-/
import Derived.Test.YtnnggchkdffpnaaDoorKitB
import Derived.Deep.DeepCutAuto
import Derived.Laws.MakeOwn
import Derived.Laws.OwnMore
import Derived.OwnWalk
import Derived.Deep.RegionHeld3
namespace Go.Proofs.YtnnggchkdffpnaaDoor
set_option linter.unusedSimpArgs false
set_option linter.unusedVariables false
open Go.RowKit Go.WideShapes Go.ChangeShapes Go.ChangeAt

/-- v is a slice that reads as these numbers -/
def NumsAt (w : World) (k : IntKind) (v : Value) (zs : List Int) : Prop :=
  (v = .slice none 0 0 ∧ zs = []) ∨
    (∃ (b off cap : Nat), v = .slice (some ⟨b, off, none⟩) zs.length cap ∧ zs.length ≤ cap ∧ cap ≤ maxLen ∧ 0 < zs.length ∧ ∀ i, i < zs.length → w.cell? ⟨b, off + i, none⟩ = some (.int k (zs.getD i 0))) ∨
    ∃ (a : Addr) (cap : Nat), v = .slice (some a) 0 cap ∧ zs = []

theorem open_nums_slice {H : Type} {enc : TypeId × Value → H} {P : Program} {w : World} {base : Nat} {sp : Nat → Bool} {held : Bool} {r : Reach} {b0 : Nat} {k : IntKind} {t t0 : TypeId} {v : Value} {d : DataW H} {ps : List MemPlace}
    (hs : P.underlying t = some (.slice t0)) (h0 : P.underlying t0 = some (.int k)) (h1 : P.cellsOf t0 = 1) (hv : Value.okWide P w r b0 t v) (h : DataW.Trod enc P w base sp held t v d ps) :
    ∃ zs : List Int, NumsAt w k v zs ∧ (∀ z ∈ zs, (Lit.int k z).wf = true) ∧ zs.length ≤ maxLen := by
  obtain ⟨a, len, cap, rfl⟩ := okWide_slice hs hv
  obtain ⟨fuel, hh⟩ := h
  rcases open_ints hs h0 h1 hh with ⟨hcs, _⟩ | ⟨a, len', cap', zs, hcs, _, hl, hm, hz, _, hcell, hwf⟩
  · simp [Value.cells] at hcs
    obtain ⟨rfl, rfl, rfl⟩ := hcs
    exact ⟨[], .inl ⟨rfl, rfl⟩, by simp, by simp⟩
  · simp [Value.cells] at hcs
    obtain ⟨rfl, rfl, rfl⟩ := hcs
    have hlen : len ≤ zs.length := by split at hz <;> omega
    have htl : (zs.take len).length = len := by simp; omega
    refine ⟨zs.take len, ?_, fun z hz' => hwf z (List.mem_of_mem_take hz'), by rw [htl]; omega⟩
    by_cases hp : 0 < len
    · obtain ⟨b, off, rfl, hc⟩ := ints_at hcell (by omega)
      refine .inr (.inl ⟨b, off, cap, ?_, ?_, hm, ?_, ?_⟩)
      · rw [htl]
      · omega
      · omega
      · intro i hi
        rw [htl] at hi
        rw [hc i (by omega)]
        simp [List.getD, List.getElem?_take, hi]
    · obtain rfl : len = 0 := by omega
      exact .inr (.inr ⟨a, cap, rfl, by simp⟩)

theorem cell_of_block {w : World} {b : Nat} {c : Array Value} {t : TypeId} {fr : Nat × Nat} (h : w.heap[b]? = some (.cells c t fr)) (j : Nat) : w.cell? ⟨b, j, none⟩ = c[j]? := by simp [World.cell?, h]
theorem frozen_of_block {w : World} {b : Nat} {c : Array Value} {t : TypeId} (h : w.heap[b]? = some (.cells c t (0, 0))) (j : Nat) : w.frozen? ⟨b, j, none⟩ = false := by
  simp [World.frozen?, h]
theorem block_setCell {w : World} {b : Nat} {c : Array Value} {t : TypeId} {fr : Nat × Nat} (h : w.heap[b]? = some (.cells c t fr)) (j : Nat) (v : Value) : (w.setCell ⟨b, j, none⟩ v).heap[b]? = some (.cells (c.setIfInBounds j v) t fr) := by
  simp [World.setCell, Array.getElem?_modify, h]
theorem block_setCell_other {w : World} {b g : Nat} (hne : g ≠ b) (j : Nat) (v : Value) : (w.setCell ⟨g, j, none⟩ v).heap[b]? = w.heap[b]? := by
  simp [World.setCell, Array.getElem?_modify, hne]
theorem made_one (v : Value) (n : Nat) : madeCells #[v] (n * 1) = (List.replicate n v).toArray := by
  apply Array.toList_inj.1
  rw [toList_madeCells_one, Nat.mul_one]
/-- make([]T, n), T a number: n times 0 in a new block -/
theorem run_make_nums {P : Program} (t e : TypeId) {k : IntKind} {B : Nat} (ht : P.underlying t = some (.slice e)) (hinf : (P.info? e).map (fun i => (i.zero, i.size, i.bytes)) = some (some (.int k 0), 1, B)) (n : Nat) (c : Int) (hc : c = (n : Int)) (hb : B * n ≤ 281474976710656) (hm : n ≤ 9223372036854775807) (w : World) :
    (Instr.makeSlice t (.int .i64 c) (.int .i64 c)).run P w = .ok (.slice (some ⟨w.heap.size, 0, none⟩) n n) (w.alloc (.cells (List.replicate n (Value.int k 0)).toArray e)) := by
  obtain ⟨i, hi, hz, hs, hbb⟩ := info_parts hinf
  subst hc
  have hb' : (i.bytes : Int) * (n : Int) ≤ 281474976710656 := by
    have h : ((i.bytes * n : Nat) : Int) ≤ 281474976710656 := by rw [hbb]; omega
    rwa [Int.natCast_mul] at h
  have hr := run_make (P := P) w t e i _ ht hi hz .i64 .i64 n n (by omega) (Int.le_refl _) hb' (by omega)
  rw [hs, Int.toNat_natCast] at hr
  rw [hr, show (Value.int k 0).cells = #[.int k 0] from rfl, made_one]
end Go.Proofs.YtnnggchkdffpnaaDoor
