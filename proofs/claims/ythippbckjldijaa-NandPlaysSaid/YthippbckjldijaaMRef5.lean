/-
  Layer 5, the document's chip in memory, said by the same value as the program's.
-/
import Derived.Test.YthippbckjldijaaNand18
--import Derived.Test.Zdbg
namespace Go.Proofs.Ythippbckjldijaa
set_option linter.unusedSimpArgs false
set_option linter.unusedVariables false
open Go.RowKit Go.WideShapes Go.ChangeShapes Go.ChangeAt Go.Deep

def pgV (x : Pg) : Value := .string (x.1 ++ x.2)
def nxV (b : BlkM) : Value := .int .i64 b.next
def erV (b : BlkM) : Value := .int .i64 b.erased
def wkV (b : BlkM) : Value := .bool (b.weak || b.mill)
def flV (b : BlkM) : Value := .bool (b.failed || b.mill)
def mlV (b : BlkM) : Value := .bool b.mill
def refC (pq n e a f m cp : Nat) (S : ChipM) : List Value :=
  [.int .i64 (S.L.length : Int), .int .i64 (S.pgs : Int), .int .i64 (S.size : Int), .slice (some ⟨pq, 0, none⟩) S.L.length cp, .slice (some ⟨n, 0, none⟩) S.L.length S.L.length, .slice (some ⟨e, 0, none⟩) S.L.length S.L.length,
   .slice (some ⟨a, 0, none⟩) S.L.length S.L.length, .slice (some ⟨f, 0, none⟩) S.L.length S.L.length, .slice (some ⟨m, 0, none⟩) S.L.length S.L.length, .int .i64 S.fuse, .string S.torn, .bool S.off, .int .i64 S.progs, .int .i64 S.eras, .int .i64 S.sins]
structure RefAt (w : World) (c pq n e a f m cp : Nat) (G : Nat → Nat) (B : Nat) (S : ChipM) : Prop where
  head : w.heap[c]? = some (.cells (refC pq n e a f m cp S).toArray 48 (0, 0))
  rows : ∃ cur, w.heap[pq]? = some (.cells cur 82 (0, 0)) ∧ ∀ k, k < S.L.length → cur[k]? = some (.slice (some ⟨G k, 0, none⟩) S.pgs S.pgs)
  page : ∀ k, k < S.L.length → w.heap[G k]? = some (.cells ((S.blk k).pages.map pgV).toArray 9 (0, 0))
  next : w.heap[n]? = some (.cells (S.L.map nxV).toArray 3 (0, 0))
  eras : w.heap[e]? = some (.cells (S.L.map erV).toArray 3 (0, 0))
  weak : w.heap[a]? = some (.cells (S.L.map wkV).toArray 4 (0, 0))
  fail : w.heap[f]? = some (.cells (S.L.map flV).toArray 4 (0, 0))
  mill : w.heap[m]? = some (.cells (S.L.map mlV).toArray 4 (0, 0))
  ne : n ≠ e ∧ a ≠ f ∧ a ≠ m ∧ f ≠ m
  inj : ∀ i j, i < S.L.length → j < S.L.length → G i = G j → i = j
  base : B ≤ c ∧ B ≤ pq ∧ B ≤ n ∧ B ≤ e ∧ B ≤ a ∧ B ≤ f ∧ B ≤ m ∧ ∀ k, k < S.L.length → B ≤ G k
  len : ∀ k, k < S.L.length → (S.blk k).pages.length = S.pgs
  cap : S.L.length ≤ cp
  few : S.L.length ≤ 256 ∧ S.pgs ≤ 64
/-- what may turn with the document's chip -/
def RTurn (B : Nat) (w w' : World) : Prop := Below B w w' ∧ KeepsT [48, 9, 3, 4] w w'
theorem RTurn.refl (B : Nat) (w : World) : RTurn B w w := ⟨Below.refl _ _, KeepsT.refl _ _⟩
theorem RTurn.trans {B : Nat} {a b c : World} (h : RTurn B a b) (k : RTurn B b c) : RTurn B a c := ⟨h.1.trans k.1, h.2.trans k.2⟩
theorem RTurn.of_below {B : Nat} {w w' : World} (h : Below w.heap.size w w') (hB : B ≤ w.heap.size) : RTurn B w w' := ⟨h.mono hB, KeepsT.of_below h⟩
theorem RTurn.drewN {B : Nat} {a b : World} (h : RTurn B a b) (n : Nat) : RTurn B a (b.drewN n) := ⟨below_drewN h.1 n, h.2.drewN n⟩
theorem RTurn.drew {B : Nat} {a b : World} (h : RTurn B a b) : RTurn B a b.drew := ⟨h.1.drew, h.2⟩
theorem RTurn.setCell {B : Nat} {w : World} {p : Nat} {c : Array Value} {t : TypeId} {fz : Nat × Nat} (h : w.heap[p]? = some (.cells c t fz)) (ht : t ∈ [48, 9, 3, 4]) (hB : B ≤ p) (j : Nat) (v : Value) : RTurn B w (w.setCell ⟨p, j, none⟩ v) :=
  ⟨(Below.refl B w).setCell (p := ⟨p, j, none⟩) hB v, KeepsT.setCell h ht j v⟩
theorem ne_of_type {w : World} {i j : Nat} {c d : Array Value} {t u : TypeId} {fz gz : Nat × Nat} (h : w.heap[i]? = some (.cells c t fz)) (k : w.heap[j]? = some (.cells d u gz)) (hn : t ≠ u) : i ≠ j := fun e => by
  subst e
  rw [h] at k
  simp only [Option.some.injEq, Obj.cells.injEq] at k
  exact hn k.2.1
section
variable {w w' : World} {c pq n e a f m cp B : Nat} {G : Nat → Nat} {S : ChipM}
theorem RefAt.keeps (h : RefAt w c pq n e a f m cp G B S) (hk : ∀ (k : Nat) (d : Array Value) (t : TypeId) (fz : Nat × Nat), w.heap[k]? = some (.cells d t fz) → t ∈ [48, 9, 3, 4, 82] → w'.heap[k]? = some (.cells d t fz)) : RefAt w' c pq n e a f m cp G B S := by
  obtain ⟨cur, h1, h2⟩ := h.rows
  exact ⟨hk _ _ _ _ h.head (by simp), ⟨cur, hk _ _ _ _ h1 (by simp), h2⟩, fun k hkl => hk _ _ _ _ (h.page k hkl) (by simp), hk _ _ _ _ h.next (by simp), hk _ _ _ _ h.eras (by simp), hk _ _ _ _ h.weak (by simp), hk _ _ _ _ h.fail (by simp), hk _ _ _ _ h.mill (by simp), h.ne, h.inj, h.base, h.len, h.cap, h.few⟩
theorem RefAt.below (h : RefAt w c pq n e a f m cp G B S) (hb : Below w.heap.size w w') : RefAt w' c pq n e a f m cp G B S := h.keeps fun k d t fz e _ => (hb.block k (heap_lt e)).trans e
theorem RefAt.drewN (h : RefAt w c pq n e a f m cp G B S) (q : Nat) : RefAt (w.drewN q) c pq n e a f m cp G B S := h.keeps fun _ _ _ _ e _ => e
theorem RefAt.drew (h : RefAt w c pq n e a f m cp G B S) : RefAt w.drew c pq n e a f m cp G B S := h.keeps fun _ _ _ _ e _ => e
/-- what the program's chip turns -/
theorem RefAt.turn {B' : Nat} (h : RefAt w c pq n e a f m cp G B S) (ht : Turn B' w w') : RefAt w' c pq n e a f m cp G B S := h.keeps fun k d t fz e hm => ht.2.cells e (fun h2 => by
  simp at hm h2
  rcases hm with rfl | rfl | rfl | rfl | rfl <;> simp at h2)
theorem RefAt.cell (h : RefAt w c pq n e a f m cp G B S) (j : Nat) : w.cell? ⟨c, j, none⟩ = (refC pq n e a f m cp S)[j]? := by rw [cell_of_block h.head]; simp
theorem RefAt.free (h : RefAt w c pq n e a f m cp G B S) (j : Nat) : w.frozen? ⟨c, j, none⟩ = false := frozen_of_block h.head j
theorem blk_map (S : ChipM) (g : BlkM → Value) (k : Nat) (hk : k < S.L.length) : (S.L.map g)[k]? = some (g (S.blk k)) := by
  unfold ChipM.blk
  simp [List.getD, hk]
theorem RefAt.at_next (h : RefAt w c pq n e a f m cp G B S) (k : Nat) (hk : k < S.L.length) : w.cell? ⟨n, k, none⟩ = some (.int .i64 (S.blk k).next) ∧ w.frozen? ⟨n, k, none⟩ = false := ⟨by rw [cell_of_block h.next, List.getElem?_toArray, blk_map S nxV k hk]; rfl, frozen_of_block h.next k⟩
theorem RefAt.at_eras (h : RefAt w c pq n e a f m cp G B S) (k : Nat) (hk : k < S.L.length) : w.cell? ⟨e, k, none⟩ = some (.int .i64 (S.blk k).erased) ∧ w.frozen? ⟨e, k, none⟩ = false := ⟨by rw [cell_of_block h.eras, List.getElem?_toArray, blk_map S erV k hk]; rfl, frozen_of_block h.eras k⟩
theorem RefAt.at_weak (h : RefAt w c pq n e a f m cp G B S) (k : Nat) (hk : k < S.L.length) : w.cell? ⟨a, k, none⟩ = some (.bool ((S.blk k).weak || (S.blk k).mill)) ∧ w.frozen? ⟨a, k, none⟩ = false := ⟨by rw [cell_of_block h.weak, List.getElem?_toArray, blk_map S wkV k hk]; rfl, frozen_of_block h.weak k⟩
theorem RefAt.at_fail (h : RefAt w c pq n e a f m cp G B S) (k : Nat) (hk : k < S.L.length) : w.cell? ⟨f, k, none⟩ = some (.bool ((S.blk k).failed || (S.blk k).mill)) ∧ w.frozen? ⟨f, k, none⟩ = false := ⟨by rw [cell_of_block h.fail, List.getElem?_toArray, blk_map S flV k hk]; rfl, frozen_of_block h.fail k⟩
theorem RefAt.at_mill (h : RefAt w c pq n e a f m cp G B S) (k : Nat) (hk : k < S.L.length) : w.cell? ⟨m, k, none⟩ = some (.bool (S.blk k).mill) ∧ w.frozen? ⟨m, k, none⟩ = false := ⟨by rw [cell_of_block h.mill, List.getElem?_toArray, blk_map S mlV k hk]; rfl, frozen_of_block h.mill k⟩
theorem RefAt.at_row (h : RefAt w c pq n e a f m cp G B S) (k : Nat) (hk : k < S.L.length) : w.cell? ⟨pq, k, none⟩ = some (.slice (some ⟨G k, 0, none⟩) S.pgs S.pgs) := by
  obtain ⟨cur, h1, h2⟩ := h.rows
  rw [cell_of_block h1]; exact h2 k hk
theorem RefAt.at_page (h : RefAt w c pq n e a f m cp G B S) (k : Nat) (hk : k < S.L.length) (i : Nat) (hi : i < S.pgs) : w.cell? ⟨G k, i, none⟩ = some (.string (((S.blk k).pages.getD i pg0).1 ++ ((S.blk k).pages.getD i pg0).2)) ∧ w.frozen? ⟨G k, i, none⟩ = false := by
  have hl := h.len k hk
  refine ⟨?_, frozen_of_block (h.page k hk) i⟩
  rw [cell_of_block (h.page k hk), List.getElem?_toArray, List.getElem?_map, List.getElem?_eq_getElem (by omega)]
  simp [pgV, List.getD, show i < (S.blk k).pages.length by omega]
/-- a cell of the chip's own is turned -/
theorem RefAt.setHead (h : RefAt w c pq n e a f m cp G B S) (j : Nat) (v : Value) (S' : ChipM) (hL : S'.L = S.L) (hp : S'.pgs = S.pgs) (hc : refC pq n e a f m cp S' = (refC pq n e a f m cp S).set j v) : RefAt (w.setCell ⟨c, j, none⟩ v) c pq n e a f m cp G B S' := by
  have hb : ∀ k, S'.blk k = S.blk k := fun k => by unfold ChipM.blk; rw [hL]
  obtain ⟨cur, h1, h2⟩ := h.rows
  refine ⟨by rw [block_setCell h.head, hc]; simp, ⟨cur, (block_setCell_other (ne_of_type h.head h1 (by decide)) _ _).trans h1, fun k hk => by rw [hp]; exact h2 k (by rw [← hL]; exact hk)⟩,
    fun k hk => (block_setCell_other (ne_of_type h.head (h.page k (by rw [← hL]; exact hk)) (by decide)) _ _).trans (by rw [hb k]; exact h.page k (by rw [← hL]; exact hk)),
    (block_setCell_other (ne_of_type h.head h.next (by decide)) _ _).trans (by rw [hL]; exact h.next), (block_setCell_other (ne_of_type h.head h.eras (by decide)) _ _).trans (by rw [hL]; exact h.eras),
    (block_setCell_other (ne_of_type h.head h.weak (by decide)) _ _).trans (by rw [hL]; exact h.weak), (block_setCell_other (ne_of_type h.head h.fail (by decide)) _ _).trans (by rw [hL]; exact h.fail),
    (block_setCell_other (ne_of_type h.head h.mill (by decide)) _ _).trans (by rw [hL]; exact h.mill), h.ne, by rw [hL]; exact h.inj, by rw [hL]; exact h.base, fun k hk => by rw [hb k, hp]; exact h.len k (by rw [← hL]; exact hk), by rw [hL]; exact h.cap, by rw [hL, hp]; exact h.few⟩
theorem map_put (S : ChipM) (g : BlkM → Value) (k : Nat) (b : BlkM) : (S.put k b).L.map g = (S.L.map g).set k (g b) := by
  show (S.L.set k b).map g = _
  rw [List.map_set]
theorem map_put_same (S : ChipM) (g : BlkM → Value) (k : Nat) (b : BlkM) (hk : k < S.L.length) (hg : g b = g (S.blk k)) : (S.put k b).L.map g = S.L.map g := by
  rw [map_put, hg]
  apply List.ext_getElem?
  intro i
  rw [List.getElem?_set]
  by_cases e : k = i
  · subst e
    rw [if_pos rfl, if_pos (by simpa using hk), blk_map S g k hk]
  · rw [if_neg e]
end
end Go.Proofs.Ythippbckjldijaa
