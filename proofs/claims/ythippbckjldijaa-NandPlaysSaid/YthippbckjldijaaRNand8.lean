/-
  Layer 5, the document's New, first part: a block that is bad from the factory; what holds of a new chip.
-/
import Derived.Test.YthippbckjldijaaRNand7
import Derived.Test.YthippbckjldijaaNand15
--import Derived.Test.Zdbg
namespace Go.Proofs.Ythippbckjldijaa
set_option linter.unusedSimpArgs false
set_option linter.unusedVariables false
open Go.RowKit Go.WideShapes Go.ChangeShapes Go.ChangeAt Go.Deep

section
variable {w : World} {c pq n e a f m cp B : Nat} {G : Nat → Nat} {S : ChipM}
theorem RefAt.setMill (h : RefAt w c pq n e a f m cp G B S) (k : Nat) (hk : k < S.L.length) (hw : (S.blk k).weak = true) (hf : (S.blk k).failed = true) : RefAt (w.setCell ⟨m, k, none⟩ (.bool true)) c pq n e a f m cp G B (S.put k { S.blk k with mill := true }) := by
  obtain ⟨cur, r1, r2⟩ := h.rows
  exact h.put k hk _ _ _ _ (ne_of_type h.mill h.head (by decide)) (ne_of_type h.mill r1 (by decide)) (h.len k hk) (pages_other h hk (fun k' hk' => ne_of_type h.mill (h.page k' hk') (by decide)) rfl) (row_other h.next (ne_of_type h.mill h.next (by decide)) hk rfl) (row_other h.eras (ne_of_type h.mill h.eras (by decide)) hk rfl)
    (row_other h.weak (Ne.symm h.ne.2.2.1) hk (by show Value.bool ((S.blk k).weak || true) = Value.bool ((S.blk k).weak || (S.blk k).mill); rw [hw]; rfl)) (row_other h.fail (Ne.symm h.ne.2.2.2) hk (by show Value.bool ((S.blk k).failed || true) = Value.bool ((S.blk k).failed || (S.blk k).mill); rw [hf]; rfl)) (row_this h.mill rfl)
/-- the same values of every block: the same place in memory -/
theorem RefAt.as (h : RefAt w c pq n e a f m cp G B S) (k : Nat) (hk : k < S.L.length) (b : BlkM) (hp : b.pages = (S.blk k).pages) (h1 : nxV b = nxV (S.blk k)) (h2 : erV b = erV (S.blk k)) (h3 : wkV b = wkV (S.blk k)) (h4 : flV b = flV (S.blk k)) (h5 : mlV b = mlV (S.blk k)) : RefAt w c pq n e a f m cp G B (S.put k b) := by
  have hpg : ∀ i, ((S.put k b).blk i).pages = (S.blk i).pages := fun i => by
    by_cases hi : i = k
    · subst hi; rw [blk_put_self S i b hk, hp]
    · rw [blk_put_other S k i b hi]
  refine ⟨?_, ?_, fun i hi => ?_, ?_, ?_, ?_, ?_, ?_, h.ne, by rw [put_length]; exact h.inj, by rw [put_length]; exact h.base, fun i hi => ?_, by rw [put_length]; exact h.cap, by rw [put_length]; exact h.few⟩
  · rw [h.head]; unfold refC; rw [put_length]; rfl
  · obtain ⟨cur, r1, r2⟩ := h.rows
    exact ⟨cur, r1, fun i hi => r2 i (by rw [put_length] at hi; exact hi)⟩
  · rw [put_length] at hi; rw [hpg]; exact h.page i hi
  · rw [map_put_same S _ k b hk h1]; exact h.next
  · rw [map_put_same S _ k b hk h2]; exact h.eras
  · rw [map_put_same S _ k b hk h3]; exact h.weak
  · rw [map_put_same S _ k b hk h4]; exact h.fail
  · rw [map_put_same S _ k b hk h5]; exact h.mill
  · rw [put_length] at hi; rw [hpg]; exact h.len i hi
/-- the four stores of a block that is bad from the factory -/
theorem RefAt.bad (h : RefAt w c pq n e a f m cp G B S) (k : Nat) (hk : k < S.L.length) (t : ByteArray) (ht : ((S.blk k).pages.getD 0 pg0).1 ++ (zeroB ++ S.blank.2.extract 1 S.blank.2.size) = t) :
    RefAt ((((w.setCell ⟨a, k, none⟩ (.bool true)).setCell ⟨f, k, none⟩ (.bool true)).setCell ⟨m, k, none⟩ (.bool true)).setCell ⟨G k, 0, none⟩ (.string t)) c pq n e a f m cp G B (millS S k) := by
  have h1 := h.setWeak k hk
  have hb1 := blk_put_self S k { S.blk k with weak := true } hk
  have h2 := h1.setFail k (by rw [put_length]; exact hk) true
  rw [hb1, put_put, show (true || (S.blk k).mill) = true from rfl] at h2
  have hb2 := blk_put_self S k { S.blk k with weak := true, failed := true } hk
  have h3 := h2.setMill k (by rw [put_length]; exact hk) (by rw [hb2]) (by rw [hb2])
  rw [hb2, put_put] at h3
  have hb3 := blk_put_self S k { S.blk k with weak := true, failed := true, mill := true } hk
  have h4 := h3.setPage k (by rw [put_length]; exact hk) 0 (((S.blk k).pages.getD 0 pg0).1, zeroB ++ S.blank.2.extract 1 S.blank.2.size)
  rw [hb3, put_put, ht] at h4
  have hb4 := blk_put_self S k { S.blk k with weak := true, failed := true, mill := true, pages := (S.blk k).pages.set 0 (((S.blk k).pages.getD 0 pg0).1, zeroB ++ S.blank.2.extract 1 S.blank.2.size) } hk
  have h5 := h4.as k (by rw [put_length]; exact hk) (millB S (S.blk k)) (by rw [hb4]; rfl) (by rw [hb4]; rfl) (by rw [hb4]; rfl)
    (by rw [hb4]; show Value.bool ((S.blk k).weak || true) = Value.bool (true || true); rw [Bool.or_true]; rfl) (by rw [hb4]; show Value.bool ((S.blk k).failed || true) = Value.bool (true || true); rw [Bool.or_true]; rfl) (by rw [hb4]; rfl)
  rw [put_put] at h5
  exact h5
end
theorem new_play (b p s : Nat) (hp : 1 ≤ p) (hs : s ≤ 1024) : PlayOk (newS b p s) 0 := by
  have hl := newS_len b p s
  refine ⟨hs, (by show (0 : Nat) ≤ 1000000; decide), (by show (0 : Int) ≤ 0 ∧ (0 : Int) ≤ ((0 : Nat) : Int); decide), (by show (0 : Int) ≤ 0 ∧ (0 : Int) ≤ ((0 : Nat) : Int); decide), (by show (0 : Int) ≤ 0 ∧ (0 : Int) ≤ ((0 : Nat) : Int); decide), (by show (0 : Int) ≤ 0 ∧ (0 : Int) ≤ 9223372036854775807; decide), rfl, fun k hk => ?_, fun k hk x hx => ?_, fun k hk => ?_⟩
  all_goals
    rw [hl] at hk
    rw [newS_blk b p s k hk] at *
  · exact ⟨Int.le_refl _, Int.le_refl _⟩
  · have := List.eq_of_mem_replicate hx
    rw [this]
    exact filledP_ok s ffB (by decide)
  · exact List.length_replicate
theorem PlayOk.mill {S : ChipM} {r : Nat} (h : PlayOk S r) (hp : 1 ≤ S.pgs) (k : Nat) (hk : k < S.L.length) : PlayOk (millS S k) r := by
  unfold millS
  refine h.put k _ (fun _ => h.few k hk) (fun _ y hy => ?_) (fun _ => by show (List.set _ _ _).length = _; rw [List.length_set]; exact h.len k hk)
  have h0 := h.sized k 0 hk (by omega)
  refine mem_set_pg (h.pages k hk) (i := 0) (x := (((S.blk k).pages.getD 0 pg0).1, zeroB ++ S.blank.2.extract 1 S.blank.2.size)) ⟨h0.1, ?_⟩ hy
  have h2 := h.blankPg.2
  show (zeroB ++ S.blank.2.extract 1 S.blank.2.size).size = 32
  rw [ByteArray.size_append, ByteArray.size_extract, h2]
  rfl
theorem PlayOk.bads {r : Nat} (L : List Int) : ∀ {S : ChipM}, PlayOk S r → 1 ≤ S.pgs → PlayOk (badS S L) r := by
  induction L with
  | nil => exact fun h _ => h
  | cons i L ih =>
    intro S h hp
    refine ih (S := badOne S i) ?_ (by rw [badOne_pgs]; exact hp)
    unfold badOne
    split
    · rename_i hi
      exact h.mill hp _ (by omega)
    · exact h
end Go.Proofs.Ythippbckjldijaa
