/-
  Layer 5, the document's New, second part: the chip under way.
-/
import Derived.Test.YthippbckjldijaaRNand8
--import Derived.Test.Zdbg
namespace Go.Proofs.Ythippbckjldijaa
set_option linter.unusedSimpArgs false
set_option linter.unusedVariables false
open Go.RowKit Go.WideShapes Go.ChangeShapes Go.ChangeAt Go.Deep

theorem owns_other {w : World} {B e n k t : Nat} {v : Value} {xs : List Value} {c : Array Value} {fr : Nat × Nat} (h : w.ownsRow B e 1 v n xs) (hk : w.heap[k]? = some (.cells c t fr)) (ht : t ≠ e) : v.ownBlock ≠ some k := fun hq => by
  obtain ⟨c', fz, hc⟩ := Go.Lib.ownsRow_kind h k hq
  rw [hk] at hc
  simp only [Option.some.injEq, Obj.cells.injEq] at hc
  exact ht hc.2.1
def rowsG (G : Nat → Nat) (pg k : Nat) : List Value := (List.range k).map fun i => .slice (some ⟨G i, 0, none⟩) pg pg
theorem rowsG_next (G : Nat → Nat) (pg k : Nat) : rowsG G pg (k + 1) = rowsG G pg k ++ [.slice (some ⟨G k, 0, none⟩) pg pg] := by simp [rowsG, List.range_succ]
theorem rowsG_congr {G G' : Nat → Nat} {pg k : Nat} (h : ∀ i, i < k → G i = G' i) : rowsG G pg k = rowsG G' pg k := by
  unfold rowsG
  apply List.map_congr_left
  intro i hi
  rw [h i (List.mem_range.1 hi)]
/-- a chip under way: k blocks have their pages -/
structure NewAt (w : World) (c : Nat) (G : Nat → Nat) (nz : ByteArray) (pg k : Nat) (hd : List Value) (a3 : Option Addr) (cap3 : Nat) : Prop where
  head : w.heap[c]? = some (.cells hd.toArray 48 (0, 0))
  own : w.ownsRow (c + 1) 82 1 (.slice a3 k cap3) k (rowsG G pg k)
  page : ∀ i, i < k → w.heap[G i]? = some (.cells (List.replicate pg (Value.string nz)).toArray 9 (0, 0)) ∧ c < G i
  inj : ∀ i j, i < k → j < k → G i = G j → i = j
section
variable {w w' : World} {c pg k : Nat} {G : Nat → Nat} {nz : ByteArray} {hd : List Value} {a3 : Option Addr} {cap3 : Nat}
theorem NewAt.below (h : NewAt w c G nz pg k hd a3 cap3) (hb : Below w.heap.size w w') : NewAt w' c G nz pg k hd a3 cap3 :=
  ⟨(hb.block _ (heap_lt h.head)).trans h.head, owns_below h.own hb, fun i hi => ⟨(hb.block _ (heap_lt (h.page i hi).1)).trans (h.page i hi).1, (h.page i hi).2⟩, h.inj⟩
theorem NewAt.cell (h : NewAt w c G nz pg k hd a3 cap3) (j : Nat) : w.cell? ⟨c, j, none⟩ = hd[j]? := by rw [cell_of_block h.head]; simp
theorem NewAt.free (h : NewAt w c G nz pg k hd a3 cap3) (j : Nat) : w.frozen? ⟨c, j, none⟩ = false := frozen_of_block h.head j
theorem NewAt.setHead (h : NewAt w c G nz pg k hd a3 cap3) (j : Nat) (v : Value) : NewAt (w.setCell ⟨c, j, none⟩ v) c G nz pg k (hd.set j v) a3 cap3 :=
  ⟨by rw [block_setCell h.head]; simp, ownsRow_setCell_other h.own (owns_other h.own h.head (by decide)) v, fun i hi => ⟨(block_setCell_other (ne_of_type h.head (h.page i hi).1 (by decide)) _ _).trans (h.page i hi).1, (h.page i hi).2⟩, h.inj⟩
/-- one block more -/
theorem NewAt.next (h : NewAt w c G nz pg k hd a3 cap3) {g g3 c3 : Nat} (hg : w.heap[g]? = some (.cells (List.replicate pg (Value.string nz)).toArray 9 (0, 0))) (hcg : c < g) (hgn : ∀ i, i < k → G i ≠ g)
    (ho : w'.ownsRow (c + 1) 82 1 (.slice (some ⟨g3, 0, none⟩) (k + 1) c3) (k + 1) (rowsG G pg k ++ [.slice (some ⟨g, 0, none⟩) pg pg])) (hk : KeepsT [82] w w') :
    NewAt (w'.setCell ⟨c, 3, none⟩ (.slice (some ⟨g3, 0, none⟩) (k + 1) c3)) c (fun i => if i = k then g else G i) nz pg (k + 1) (hd.set 3 (.slice (some ⟨g3, 0, none⟩) (k + 1) c3)) (some ⟨g3, 0, none⟩) c3 := by
  have h1 : NewAt w' c (fun i => if i = k then g else G i) nz pg (k + 1) hd (some ⟨g3, 0, none⟩) c3 := by
    refine ⟨hk.cells h.head (by simp), ?_, fun i hi => ?_, fun i j hi hj he => ?_⟩
    · rw [rowsG_next, if_pos rfl, ← rowsG_congr (G := G) (fun i hi => by rw [if_neg (by omega)])]
      exact ho
    · by_cases e : i = k
      · rw [if_pos e]; exact ⟨hk.cells hg (by simp), hcg⟩
      · rw [if_neg e]; exact ⟨hk.cells (h.page i (by omega)).1 (by simp), (h.page i (by omega)).2⟩
    · by_cases e1 : i = k
      · by_cases e2 : j = k
        · omega
        · rw [if_pos e1, if_neg e2] at he
          exact absurd he.symm (hgn j (by omega))
      · by_cases e2 : j = k
        · rw [if_neg e1, if_pos e2] at he
          exact absurd he (hgn i (by omega))
        · rw [if_neg e1, if_neg e2] at he
          exact h.inj i j (by omega) (by omega) he
  exact h1.setHead 3 _
/-- all that is made stands: the chip -/
theorem NewAt.ref {n e a f m b p s : Nat} (h : NewAt w c G (fillZ (s + 32) 255) p b hd a3 cap3) (hb : 0 < b) (hb2 : b ≤ 256) (hp : p ≤ 64) (pq : Nat) (ha3 : a3 = some ⟨pq, 0, none⟩) (hhd : hd = refC pq n e a f m cap3 (newS b p s))
    (h1 : w.heap[n]? = some (.cells (List.replicate b (Value.int .i64 0)).toArray 3 (0, 0))) (h2 : w.heap[e]? = some (.cells (List.replicate b (Value.int .i64 0)).toArray 3 (0, 0)))
    (h3 : w.heap[a]? = some (.cells (List.replicate b (Value.bool false)).toArray 4 (0, 0))) (h4 : w.heap[f]? = some (.cells (List.replicate b (Value.bool false)).toArray 4 (0, 0))) (h5 : w.heap[m]? = some (.cells (List.replicate b (Value.bool false)).toArray 4 (0, 0)))
    (hne : n ≠ e ∧ a ≠ f ∧ a ≠ m ∧ f ≠ m) (hlt : c < n ∧ c < e ∧ c < a ∧ c < f ∧ c < m) : RefAt w c pq n e a f m cap3 G c (newS b p s) := by
  subst ha3
  have hl := newS_len b p s
  have hmap : ∀ g : BlkM → Value, (newS b p s).L.map g = List.replicate b (g ⟨List.replicate p (filledP s ffB), 0, 0, false, false, false⟩) := fun g => by
    show (List.replicate b _).map g = _
    rw [List.map_replicate]
  have hown := h.own
  obtain ⟨pq', cap', cur, hv, hB, hg, hnc, hcl, hsz, hx⟩ : ∃ pq' cap' cur, Value.slice (some ⟨pq, 0, none⟩) b cap3 = .slice (some ⟨pq', 0, none⟩) b cap' ∧ c + 1 ≤ pq' ∧ w.heap[pq']? = some (.cells cur 82 (0, 0)) ∧ b ≤ cap' ∧ True ∧ cur.size = cap' * 1 ∧ cur.toList.take (b * 1) = rowsG G p b := by
    rcases hown.2 with ⟨hv, hn⟩ | ⟨g, cap', cur, hv, hB, hg, hnc, h8, hsz, hx⟩
    · omega
    · exact ⟨g, cap', cur, hv, hB, hg, hnc, trivial, hsz, hx⟩
  simp only [Value.slice.injEq, Option.some.injEq, Addr.mk.injEq] at hv
  obtain ⟨⟨rfl, -, -⟩, -, rfl⟩ := hv
  refine ⟨by rw [← hhd]; exact h.head, ⟨cur, hg, fun k hk => ?_⟩, fun k hk => ?_, ?_, ?_, ?_, ?_, ?_, hne, fun i j hi hj => h.inj i j (by rw [hl] at hi; exact hi) (by rw [hl] at hj; exact hj), ⟨Nat.le_refl _, by omega, by omega, by omega, by omega, by omega, by omega, fun k hk => Nat.le_of_lt (h.page k (by rw [hl] at hk; exact hk)).2⟩, fun k hk => ?_, by rw [hl]; exact hnc, by rw [hl]; exact ⟨hb2, hp⟩⟩
  · rw [hl] at hk
    have e1 : (rowsG G p b)[k]? = some (.slice (some ⟨G k, 0, none⟩) p p) := by simp [rowsG, hk]
    rw [← hx, List.getElem?_take, if_pos (by omega)] at e1
    show cur[k]? = some (.slice (some ⟨G k, 0, none⟩) p p)
    simpa using e1
  · rw [hl] at hk
    rw [newS_blk b p s k hk, (h.page k hk).1]
    dsimp only
    rw [List.map_replicate]
    unfold pgV
    rw [show ffB = ⟨#[255]⟩ from rfl, filled_one]
  · rw [hmap]; exact h1
  · rw [hmap]; exact h2
  · rw [hmap]; exact h3
  · rw [hmap]; exact h4
  · rw [hmap]; exact h5
  · rw [hl] at hk
    rw [newS_blk b p s k hk]
    exact List.length_replicate
end
end Go.Proofs.Ythippbckjldijaa
