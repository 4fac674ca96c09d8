/-
  Layer 5, the document's chip in memory, second part: what is turned of a block.
-/
import Derived.Test.YthippbckjldijaaMRef5
--import Derived.Test.Zdbg
namespace Go.Proofs.Ythippbckjldijaa
set_option linter.unusedSimpArgs false
set_option linter.unusedVariables false
open Go.RowKit Go.WideShapes Go.ChangeShapes Go.ChangeAt Go.Deep

section
variable {w w' : World} {c pq n e a f m cp B : Nat} {G : Nat → Nat} {S : ChipM}
theorem row_other {t : TypeId} {r j i k : Nat} {v : Value} {g : BlkM → Value} {b : BlkM} (hr : w.heap[r]? = some (.cells (S.L.map g).toArray t (0, 0))) (hne : j ≠ r) (hk : k < S.L.length) (hg : g b = g (S.blk k)) : (w.setCell ⟨j, i, none⟩ v).heap[r]? = some (.cells ((S.put k b).L.map g).toArray t (0, 0)) := by
  rw [block_setCell_other hne, hr, map_put_same S g k b hk hg]
theorem row_this {t : TypeId} {r k : Nat} {v : Value} {g : BlkM → Value} {b : BlkM} (hr : w.heap[r]? = some (.cells (S.L.map g).toArray t (0, 0))) (hg : g b = v) : (w.setCell ⟨r, k, none⟩ v).heap[r]? = some (.cells ((S.put k b).L.map g).toArray t (0, 0)) := by
  rw [block_setCell hr, map_put, hg]; simp
theorem RefAt.put (h : RefAt w c pq n e a f m cp G B S) (k : Nat) (hk : k < S.L.length) (b : BlkM) (j i : Nat) (v : Value) (hc : j ≠ c) (hq : j ≠ pq) (hl : b.pages.length = S.pgs)
    (h1 : ∀ k', k' < S.L.length → (w.setCell ⟨j, i, none⟩ v).heap[G k']? = some (.cells (((S.put k b).blk k').pages.map pgV).toArray 9 (0, 0)))
    (h2 : (w.setCell ⟨j, i, none⟩ v).heap[n]? = some (.cells ((S.put k b).L.map nxV).toArray 3 (0, 0)))
    (h3 : (w.setCell ⟨j, i, none⟩ v).heap[e]? = some (.cells ((S.put k b).L.map erV).toArray 3 (0, 0)))
    (h4 : (w.setCell ⟨j, i, none⟩ v).heap[a]? = some (.cells ((S.put k b).L.map wkV).toArray 4 (0, 0)))
    (h5 : (w.setCell ⟨j, i, none⟩ v).heap[f]? = some (.cells ((S.put k b).L.map flV).toArray 4 (0, 0)))
    (h6 : (w.setCell ⟨j, i, none⟩ v).heap[m]? = some (.cells ((S.put k b).L.map mlV).toArray 4 (0, 0))) : RefAt (w.setCell ⟨j, i, none⟩ v) c pq n e a f m cp G B (S.put k b) := by
  obtain ⟨cur, r1, r2⟩ := h.rows
  refine ⟨?_, ⟨cur, (block_setCell_other hq _ _).trans r1, fun k' hk' => r2 k' (by rw [← put_length S k b]; exact hk')⟩, fun k' hk' => h1 k' (by rw [← put_length S k b]; exact hk'), h2, h3, h4, h5, h6, h.ne, by rw [put_length]; exact h.inj, by rw [put_length]; exact h.base, fun k' hk' => ?_, by rw [put_length]; exact h.cap, by rw [put_length]; exact h.few⟩
  · rw [block_setCell_other hc, h.head]
    unfold refC
    rw [put_length]; rfl
  · rw [put_length] at hk'
    by_cases hi : k' = k
    · subst hi; rw [blk_put_self S k' b hk]; exact hl
    · rw [blk_put_other S k k' b hi]; exact h.len k' hk'
theorem pages_other {j i k : Nat} {v : Value} {b : BlkM} (h : RefAt w c pq n e a f m cp G B S) (hk : k < S.L.length) (hj : ∀ k', k' < S.L.length → j ≠ G k') (hp : b.pages = (S.blk k).pages) (k' : Nat) (hk' : k' < S.L.length) : (w.setCell ⟨j, i, none⟩ v).heap[G k']? = some (.cells (((S.put k b).blk k').pages.map pgV).toArray 9 (0, 0)) := by
  rw [block_setCell_other (hj k' hk'), h.page k' hk']
  by_cases hi : k' = k
  · subst hi; rw [blk_put_self S k' b hk, hp]
  · rw [blk_put_other S k k' b hi]
theorem RefAt.setNext (h : RefAt w c pq n e a f m cp G B S) (k : Nat) (hk : k < S.L.length) (v : Int) : RefAt (w.setCell ⟨n, k, none⟩ (.int .i64 v)) c pq n e a f m cp G B (S.put k { S.blk k with next := v }) := by
  obtain ⟨cur, r1, r2⟩ := h.rows
  exact h.put k hk _ _ _ _ (ne_of_type h.next h.head (by decide)) (ne_of_type h.next r1 (by decide)) (h.len k hk) (pages_other h hk (fun k' hk' => ne_of_type h.next (h.page k' hk') (by decide)) rfl) (row_this h.next rfl) (row_other h.eras h.ne.1 hk rfl)
    (row_other h.weak (ne_of_type h.next h.weak (by decide)) hk rfl) (row_other h.fail (ne_of_type h.next h.fail (by decide)) hk rfl) (row_other h.mill (ne_of_type h.next h.mill (by decide)) hk rfl)
theorem RefAt.setEras (h : RefAt w c pq n e a f m cp G B S) (k : Nat) (hk : k < S.L.length) (v : Int) : RefAt (w.setCell ⟨e, k, none⟩ (.int .i64 v)) c pq n e a f m cp G B (S.put k { S.blk k with erased := v }) := by
  obtain ⟨cur, r1, r2⟩ := h.rows
  exact h.put k hk _ _ _ _ (ne_of_type h.eras h.head (by decide)) (ne_of_type h.eras r1 (by decide)) (h.len k hk) (pages_other h hk (fun k' hk' => ne_of_type h.eras (h.page k' hk') (by decide)) rfl) (row_other h.next (Ne.symm h.ne.1) hk rfl) (row_this h.eras rfl)
    (row_other h.weak (ne_of_type h.eras h.weak (by decide)) hk rfl) (row_other h.fail (ne_of_type h.eras h.fail (by decide)) hk rfl) (row_other h.mill (ne_of_type h.eras h.mill (by decide)) hk rfl)
theorem RefAt.setWeak (h : RefAt w c pq n e a f m cp G B S) (k : Nat) (hk : k < S.L.length) : RefAt (w.setCell ⟨a, k, none⟩ (.bool true)) c pq n e a f m cp G B (S.put k { S.blk k with weak := true }) := by
  obtain ⟨cur, r1, r2⟩ := h.rows
  exact h.put k hk _ _ _ _ (ne_of_type h.weak h.head (by decide)) (ne_of_type h.weak r1 (by decide)) (h.len k hk) (pages_other h hk (fun k' hk' => ne_of_type h.weak (h.page k' hk') (by decide)) rfl) (row_other h.next (ne_of_type h.weak h.next (by decide)) hk rfl) (row_other h.eras (ne_of_type h.weak h.eras (by decide)) hk rfl)
    (row_this h.weak rfl) (row_other h.fail h.ne.2.1 hk rfl) (row_other h.mill h.ne.2.2.1 hk rfl)
theorem RefAt.setFail (h : RefAt w c pq n e a f m cp G B S) (k : Nat) (hk : k < S.L.length) (x : Bool) : RefAt (w.setCell ⟨f, k, none⟩ (.bool (x || (S.blk k).mill))) c pq n e a f m cp G B (S.put k { S.blk k with failed := x }) := by
  obtain ⟨cur, r1, r2⟩ := h.rows
  exact h.put k hk _ _ _ _ (ne_of_type h.fail h.head (by decide)) (ne_of_type h.fail r1 (by decide)) (h.len k hk) (pages_other h hk (fun k' hk' => ne_of_type h.fail (h.page k' hk') (by decide)) rfl) (row_other h.next (ne_of_type h.fail h.next (by decide)) hk rfl) (row_other h.eras (ne_of_type h.fail h.eras (by decide)) hk rfl)
    (row_other h.weak (Ne.symm h.ne.2.1) hk rfl) (row_this h.fail rfl) (row_other h.mill h.ne.2.2.2 hk rfl)
theorem RefAt.setPage (h : RefAt w c pq n e a f m cp G B S) (k : Nat) (hk : k < S.L.length) (i : Nat) (x : Pg) : RefAt (w.setCell ⟨G k, i, none⟩ (.string (x.1 ++ x.2))) c pq n e a f m cp G B (S.put k { S.blk k with pages := (S.blk k).pages.set i x }) := by
  obtain ⟨cur, r1, r2⟩ := h.rows
  have hp := h.page k hk
  exact h.put k hk _ _ _ _ (ne_of_type hp h.head (by decide)) (ne_of_type hp r1 (by decide)) (by show ((S.blk k).pages.set i x).length = _; rw [List.length_set]; exact h.len k hk) (fun k' hk' => by
      by_cases hi : k' = k
      · subst hi
        rw [blk_put_self S k' _ hk, block_setCell hp]
        rw [show (({ S.blk k' with pages := (S.blk k').pages.set i x } : BlkM).pages) = (S.blk k').pages.set i x from rfl, List.map_set]; simp [pgV]
      · rw [blk_put_other S k k' _ hi, block_setCell_other (fun e => hi (h.inj k' k hk' hk e.symm))]
        exact h.page k' hk')
    (row_other h.next (ne_of_type hp h.next (by decide)) hk rfl) (row_other h.eras (ne_of_type hp h.eras (by decide)) hk rfl)
    (row_other h.weak (ne_of_type hp h.weak (by decide)) hk rfl) (row_other h.fail (ne_of_type hp h.fail (by decide)) hk rfl) (row_other h.mill (ne_of_type hp h.mill (by decide)) hk rfl)
theorem RefAt.turnHead (h : RefAt w c pq n e a f m cp G B S) (j : Nat) (v : Value) : RTurn B w (w.setCell ⟨c, j, none⟩ v) := RTurn.setCell h.head (by simp) h.base.1 j v
theorem RefAt.turnNext (h : RefAt w c pq n e a f m cp G B S) (j : Nat) (v : Value) : RTurn B w (w.setCell ⟨n, j, none⟩ v) := RTurn.setCell h.next (by simp) h.base.2.2.1 j v
theorem RefAt.turnEras (h : RefAt w c pq n e a f m cp G B S) (j : Nat) (v : Value) : RTurn B w (w.setCell ⟨e, j, none⟩ v) := RTurn.setCell h.eras (by simp) h.base.2.2.2.1 j v
theorem RefAt.turnWeak (h : RefAt w c pq n e a f m cp G B S) (j : Nat) (v : Value) : RTurn B w (w.setCell ⟨a, j, none⟩ v) := RTurn.setCell h.weak (by simp) h.base.2.2.2.2.1 j v
theorem RefAt.turnFail (h : RefAt w c pq n e a f m cp G B S) (j : Nat) (v : Value) : RTurn B w (w.setCell ⟨f, j, none⟩ v) := RTurn.setCell h.fail (by simp) h.base.2.2.2.2.2.1 j v
theorem RefAt.turnPage (h : RefAt w c pq n e a f m cp G B S) (k : Nat) (hk : k < S.L.length) (j : Nat) (v : Value) : RTurn B w (w.setCell ⟨G k, j, none⟩ v) := RTurn.setCell (h.page k hk) (by simp) (h.base.2.2.2.2.2.2.2 k hk) j v
theorem RefAt.size (h : RefAt w c pq n e a f m cp G B S) : B ≤ w.heap.size := Nat.le_trans h.base.1 (Nat.le_of_lt (heap_lt h.head))
end
/-- the program's chip stays where the document's turns -/
theorem NandAt.rturn {w w' : World} {p q B B' : Nat} {G : Nat → Nat} {S : ChipM} (h : NandAt w p q B G S) (ht : RTurn B' w w') : NandAt w' p q B G S := by
  refine ⟨ht.2.cells h.head (by simp), ?_, fun k hk => ?_, h.inj, h.base, h.len, h.few⟩
  · obtain ⟨cs, h1, h2⟩ := h.row.ex
    exact h.row.kept ((ht.2.cells h1 (by simp)).trans h1.symm)
  · obtain ⟨cs, h1, h2⟩ := (h.page k hk).ex
    exact (h.page k hk).kept ((ht.2.cells h1 (by simp)).trans h1.symm)
/-- a call's turn of the document's chip -/
def RefIs (c pq n e a f m cp : Nat) (G : Nat → Nat) (B : Nat) (S' : ChipM) (v : Value) (w : World) (x : Ending) (w' : World) : Prop := x = .returned v ∧ RefAt w' c pq n e a f m cp G B S' ∧ RTurn B w w'
end Go.Proofs.Ythippbckjldijaa
