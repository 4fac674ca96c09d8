/-
  Lemmas and contracts of this project's own, put together: KitC, KitD.
-/
import Derived.Deep.DeepCutAuto
import Derived.Laws.MakeOwn
import Derived.Laws.OwnMore
import Derived.OwnWalk
import Derived.Deep.RegionHeld3
import Derived.Test.YtjfmkfhjbdiojaaGreatPk1
namespace Go.Proofs.YtjfmkfhjbdiojaaGreat
set_option linter.unusedSimpArgs false
set_option linter.unusedVariables false
open Go.RowKit Go.WideShapes Go.ChangeShapes Go.ChangeAt

/-- v is a slice that reads as these numbers -/
def NumsAt (w : World) (k : IntKind) (v : Value) (zs : List Int) : Prop :=
  (v = .slice none 0 0 ∧ zs = []) ∨
    (∃ (b off cap : Nat), v = .slice (some ⟨b, off, none⟩) zs.length cap ∧ zs.length ≤ cap ∧ cap ≤ maxLen ∧ 0 < zs.length ∧ ∀ i, i < zs.length → w.cell? ⟨b, off + i, none⟩ = some (.int k (zs.getD i 0))) ∨
    ∃ (a : Addr) (cap : Nat), v = .slice (some a) 0 cap ∧ zs = []

theorem open_nums_slice {H : Type} {enc : TypeId × Value → H} {P : Program} {w : World} {base : Nat} {sp : Nat → Bool} {held : Bool} {r : Reach} {b0 : Nat} {k : IntKind} {t t0 : TypeId} {v : Value} {d : DataW H} {ps : List MemPlace}
    (hs : P.underlying t = some (.slice t0)) (h0 : P.underlying t0 = some (.int k)) (h1 : P.cellsOf t0 = 1) (hv : Value.okWide P w r b0 t v) (h : DataW.Trod enc P w base sp held t v d ps) :
    ∃ zs : List Int, NumsAt w k v zs ∧ (∀ z ∈ zs, (Lit.int k z).wf = true) ∧ zs.length ≤ maxLen := by
  obtain ⟨a, len, cap, rfl⟩ := okWide_slice hs hv
  obtain ⟨fuel, hh⟩ := h
  rcases open_ints hs h0 h1 hh with ⟨hcs, _⟩ | ⟨a, len', cap', zs, hcs, _, hl, hm, hz, _, hcell, hwf⟩
  · simp [Value.cells] at hcs
    obtain ⟨rfl, rfl, rfl⟩ := hcs
    exact ⟨[], .inl ⟨rfl, rfl⟩, by simp, by simp⟩
  · simp [Value.cells] at hcs
    obtain ⟨rfl, rfl, rfl⟩ := hcs
    have hlen : len ≤ zs.length := by split at hz <;> omega
    have htl : (zs.take len).length = len := by simp; omega
    refine ⟨zs.take len, ?_, fun z hz' => hwf z (List.mem_of_mem_take hz'), by rw [htl]; omega⟩
    by_cases hp : 0 < len
    · obtain ⟨b, off, rfl, hc⟩ := ints_at hcell (by omega)
      refine .inr (.inl ⟨b, off, cap, ?_, ?_, hm, ?_, ?_⟩)
      · rw [htl]
      · omega
      · omega
      · intro i hi
        rw [htl] at hi
        rw [hc i (by omega)]
        simp [List.getD, List.getElem?_take, hi]
    · obtain rfl : len = 0 := by omega
      exact .inr (.inr ⟨a, cap, rfl, by simp⟩)

theorem cell_of_block {w : World} {b : Nat} {c : Array Value} {t : TypeId} {fr : Nat × Nat} (h : w.heap[b]? = some (.cells c t fr)) (j : Nat) : w.cell? ⟨b, j, none⟩ = c[j]? := by simp [World.cell?, h]
theorem frozen_of_block {w : World} {b : Nat} {c : Array Value} {t : TypeId} (h : w.heap[b]? = some (.cells c t (0, 0))) (j : Nat) : w.frozen? ⟨b, j, none⟩ = false := by
  simp [World.frozen?, h]
theorem block_setCell {w : World} {b : Nat} {c : Array Value} {t : TypeId} {fr : Nat × Nat} (h : w.heap[b]? = some (.cells c t fr)) (j : Nat) (v : Value) : (w.setCell ⟨b, j, none⟩ v).heap[b]? = some (.cells (c.setIfInBounds j v) t fr) := by
  simp [World.setCell, Array.getElem?_modify, h]
theorem block_setCell_other {w : World} {b g : Nat} (hne : g ≠ b) (j : Nat) (v : Value) : (w.setCell ⟨g, j, none⟩ v).heap[b]? = w.heap[b]? := by
  simp [World.setCell, Array.getElem?_modify, hne]
theorem made_one (v : Value) (n : Nat) : madeCells #[v] (n * 1) = (List.replicate n v).toArray := by
  apply Array.toList_inj.1
  rw [toList_madeCells_one, Nat.mul_one]
/-- make([]T, n), T a number: n times 0 in a new block -/
theorem run_make_nums {P : Program} (t e : TypeId) {k : IntKind} {B : Nat} (ht : P.underlying t = some (.slice e)) (hinf : (P.info? e).map (fun i => (i.zero, i.size, i.bytes)) = some (some (.int k 0), 1, B)) (n : Nat) (c : Int) (hc : c = (n : Int)) (hb : B * n ≤ 281474976710656) (hm : n ≤ 9223372036854775807) (w : World) :
    (Instr.makeSlice t (.int .i64 c) (.int .i64 c)).run P w = .ok (.slice (some ⟨w.heap.size, 0, none⟩) n n) (w.alloc (.cells (List.replicate n (Value.int k 0)).toArray e)) := by
  obtain ⟨i, hi, hz, hs, hbb⟩ := info_parts hinf
  subst hc
  have hb' : (i.bytes : Int) * (n : Int) ≤ 281474976710656 := by
    have h : ((i.bytes * n : Nat) : Int) ≤ 281474976710656 := by rw [hbb]; omega
    rwa [Int.natCast_mul] at h
  have hr := run_make (P := P) w t e i _ ht hi hz .i64 .i64 n n (by omega) (Int.le_refl _) hb' (by omega)
  rw [hs, Int.toNat_natCast] at hr
  rw [hr, show (Value.int k 0).cells = #[.int k 0] from rfl, made_one]
end Go.Proofs.YtjfmkfhjbdiojaaGreat

namespace Go.Proofs.YtjfmkfhjbdiojaaGreat
set_option linter.unusedSimpArgs false
set_option linter.unusedVariables false
open Go.RowKit Go.WideShapes Go.ChangeShapes Go.ChangeAt

/-- of what was there, block q alone may have turned -/
structure Only (q : Nat) (w w' : World) : Prop where
  os : w'.os = w.os
  tape : w'.tape = w.tape
  output : w'.output = w.output
  size : w.heap.size ≤ w'.heap.size
  block : ∀ k, k < w.heap.size → k ≠ q → w'.heap[k]? = w.heap[k]?
theorem Only.refl (q : Nat) (w : World) : Only q w w := ⟨rfl, rfl, rfl, Nat.le_refl _, fun _ _ _ => rfl⟩
theorem Only.trans {q : Nat} {a b c : World} (h : Only q a b) (k : Only q b c) : Only q a c :=
  ⟨k.os.trans h.os, k.tape.trans h.tape, k.output.trans h.output, Nat.le_trans h.size k.size, fun j hj hq => (k.block j (Nat.lt_of_lt_of_le hj h.size) hq).trans (h.block j hj hq)⟩
theorem Only.of_below {q : Nat} {a b : World} (h : Below a.heap.size a b) : Only q a b := ⟨h.os, h.tape, h.output, h.size, fun k hk _ => h.block k hk⟩
theorem Only.setCell {a : World} (q j : Nat) (v : Value) : Only q a (a.setCell ⟨q, j, none⟩ v) :=
  ⟨rfl, rfl, rfl, by simp, fun k _ hq => block_setCell_other (Ne.symm hq) j v⟩
theorem Only.below {q B : Nat} {a b c : World} (h : Only q b c) (k : Below B a b) (hB : B ≤ q) (hs : B ≤ b.heap.size) : Below B a c :=
  k.trans ⟨h.os, h.tape, h.output, h.size, fun j hj => h.block j (by omega) (by omega)⟩
theorem Only.drew {q : Nat} {a b : World} (h : Only q a b) : Only q a b.drew := ⟨h.os, h.tape, h.output, h.size, h.block⟩
theorem heap_new (w : World) (o : Obj) : (w.alloc o).heap[w.heap.size]? = some o := by show (w.heap.push o)[w.heap.size]? = some o; simp
theorem heap_lt {w : World} {k : Nat} {o : Obj} (h : w.heap[k]? = some o) : k < w.heap.size := (Array.getElem?_eq_some_iff.1 h).1
theorem heap_old (w : World) (o : Obj) (k : Nat) (h : k < w.heap.size) : (w.alloc o).heap[k]? = w.heap[k]? := Below.heap_alloc w o k h

/-- pairs of numbers, one behind the other -/
def flat2 (L : List (Int × Int)) : List Value := L.flatMap fun x => [.int .i64 x.1, .int .i64 x.2]
theorem flat2_cons (x : Int × Int) (L : List (Int × Int)) : flat2 (x :: L) = .int .i64 x.1 :: .int .i64 x.2 :: flat2 L := rfl
theorem flat2_length (L : List (Int × Int)) : (flat2 L).length = L.length * 2 := by
  induction L with
  | nil => rfl
  | cons x L ih => rw [flat2_cons]; simp [ih]; omega
theorem flat2_fst : ∀ (L : List (Int × Int)) (i : Nat), i < L.length → (flat2 L)[i * 2]? = some (.int .i64 (L.getD i (0, 0)).1)
  | [], i, h => by simp at h
  | x :: L, 0, h => by simp [flat2_cons]
  | x :: L, i + 1, h => by
    have := flat2_fst L i (by simpa using h)
    rw [flat2_cons, show (i + 1) * 2 = i * 2 + 1 + 1 by omega]
    simpa using this
theorem flat2_snd : ∀ (L : List (Int × Int)) (i : Nat), i < L.length → (flat2 L)[i * 2 + 1]? = some (.int .i64 (L.getD i (0, 0)).2)
  | [], i, h => by simp at h
  | x :: L, 0, h => by simp [flat2_cons]
  | x :: L, i + 1, h => by
    have := flat2_snd L i (by simpa using h)
    rw [flat2_cons, show (i + 1) * 2 + 1 = i * 2 + 1 + 1 + 1 by omega]
    simpa using this
theorem flat2_set_fst : ∀ (L : List (Int × Int)) (i : Nat) (v : Int), i < L.length → (flat2 L).set (i * 2) (.int .i64 v) = flat2 (L.set i (v, (L.getD i (0, 0)).2))
  | [], i, v, h => by simp at h
  | x :: L, 0, v, h => by simp [flat2_cons]
  | x :: L, i + 1, v, h => by
    have := flat2_set_fst L i v (by simpa using h)
    rw [flat2_cons, show (i + 1) * 2 = i * 2 + 1 + 1 by omega]
    simpa [flat2_cons] using this
theorem flat2_set_snd : ∀ (L : List (Int × Int)) (i : Nat) (v : Int), i < L.length → (flat2 L).set (i * 2 + 1) (.int .i64 v) = flat2 (L.set i ((L.getD i (0, 0)).1, v))
  | [], i, v, h => by simp at h
  | x :: L, 0, v, h => by simp [flat2_cons]
  | x :: L, i + 1, v, h => by
    have := flat2_set_snd L i v (by simpa using h)
    rw [flat2_cons, show (i + 1) * 2 + 1 = i * 2 + 1 + 1 + 1 by omega]
    simpa [flat2_cons] using this
end Go.Proofs.YtjfmkfhjbdiojaaGreat
