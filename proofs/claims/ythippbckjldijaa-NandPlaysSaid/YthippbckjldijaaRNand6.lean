/-
  Layer 5, what holds of a chip however it is played: sizes, numbers.
-/
import Derived.Test.YthippbckjldijaaRNand5
--import Derived.Test.Zdbg
namespace Go.Proofs.Ythippbckjldijaa
set_option linter.unusedSimpArgs false
set_option linter.unusedVariables false
open Go.RowKit Go.WideShapes Go.ChangeShapes Go.ChangeAt Go.Deep

def PgOk (z : Nat) (x : Pg) : Prop := x.1.size = z ∧ x.2.size = 32
/-- after m acts at most -/
structure PlayOk (S : ChipM) (m : Nat) : Prop where
  size : S.size ≤ 1024
  torn : S.torn.size ≤ 1000000
  progs : 0 ≤ S.progs ∧ S.progs ≤ m
  eras : 0 ≤ S.eras ∧ S.eras ≤ m
  sins : 0 ≤ S.sins ∧ S.sins ≤ m
  fuse : 0 ≤ S.fuse ∧ S.fuse ≤ 9223372036854775807
  blank : S.blank = filledP S.size ⟨#[255]⟩
  few : ∀ k, k < S.L.length → 0 ≤ (S.blk k).erased ∧ (S.blk k).erased ≤ m
  pages : ∀ k, k < S.L.length → ∀ x ∈ (S.blk k).pages, PgOk S.size x
  len : ∀ k, k < S.L.length → (S.blk k).pages.length = S.pgs
theorem filledP_ok (z : Nat) (t : ByteArray) (h : 1 ≤ t.size) : PgOk z (filledP z t) := by
  have h1 := againB_size z t h
  unfold filledP PgOk
  dsimp only
  rw [ByteArray.size_extract, ByteArray.size_extract]
  omega
section
variable {S : ChipM} {m : Nat}
theorem PlayOk.nand (h : PlayOk S m) (hm : m ≤ 1000) : NandOk S := ⟨h.size, h.torn, ⟨h.progs.1, by have := h.progs.2; omega⟩, ⟨h.eras.1, by have := h.eras.2; omega⟩, ⟨h.sins.1, by have := h.sins.2; omega⟩, h.fuse⟩
theorem PlayOk.fewE (h : PlayOk S m) (hm : m ≤ 1000) : FewE S := fun k hk => ⟨(h.few k hk).1, by have := (h.few k hk).2; omega⟩
theorem PlayOk.sized (h : PlayOk S m) : Sized S := fun k i hk hi => by
  have hl := h.len k hk
  have h1 := h.pages k hk ((S.blk k).pages.getD i pg0) (by
    rw [List.getD_eq_getElem?_getD, List.getElem?_eq_getElem (by omega)]
    exact List.getElem_mem _)
  exact h1
theorem PlayOk.blankOk (h : PlayOk S m) : BlankOk S := by unfold BlankOk; rw [h.blank]; exact filled_one _ _
theorem PlayOk.blank1 (h : PlayOk S m) : S.blank.1.size = S.size := by rw [h.blank]; exact (filledP_ok S.size ⟨#[255]⟩ (by decide)).1
theorem PlayOk.blankPg (h : PlayOk S m) : PgOk S.size S.blank := by rw [h.blank]; exact filledP_ok S.size ⟨#[255]⟩ (by decide)
theorem PlayOk.mono {m' : Nat} (h : PlayOk S m) (hm : m ≤ m') : PlayOk S m' := ⟨h.size, h.torn, ⟨h.progs.1, by have := h.progs.2; omega⟩, ⟨h.eras.1, by have := h.eras.2; omega⟩, ⟨h.sins.1, by have := h.sins.2; omega⟩, h.fuse, h.blank, fun k hk => ⟨(h.few k hk).1, by have := (h.few k hk).2; omega⟩, h.pages, h.len⟩
/-- a block is turned -/
theorem PlayOk.put (h : PlayOk S m) (k : Nat) (b : BlkM) (he : k < S.L.length → 0 ≤ b.erased ∧ b.erased ≤ m) (hp : k < S.L.length → ∀ x ∈ b.pages, PgOk S.size x) (hl : k < S.L.length → b.pages.length = S.pgs) : PlayOk (S.put k b) m := by
  refine ⟨h.size, h.torn, h.progs, h.eras, h.sins, h.fuse, h.blank, fun i hi => ?_, fun i hi => ?_, fun i hi => ?_⟩
  all_goals
    rw [put_length] at hi
    by_cases e : i = k
    · subst e; rw [blk_put_self S i b hi]; first | exact he hi | exact hp hi | exact hl hi
    · rw [blk_put_other S k i b e]; first | exact h.few i hi | exact h.pages i hi | exact h.len i hi
theorem PlayOk.sin (h : PlayOk S m) (k : Nat) (o : Bool) : PlayOk (sinS S k o) (m + 1) := by
  unfold sinS
  split
  · exact h.mono (by omega)
  · have h2 := h.mono (Nat.le_succ m)
    exact ⟨h.size, h.torn, h2.progs, h2.eras, ⟨by have := h.sins.1; show 0 ≤ S.sins + 1; omega, by have := h.sins.2; show S.sins + 1 ≤ _; omega⟩, h.fuse, h.blank, h2.few, h.pages, h.len⟩
theorem PlayOk.cut (h : PlayOk S m) : PlayOk (cutS S) m := by
  unfold cutS
  split
  · exact h
  · rename_i hz
    exact ⟨h.size, h.torn, h.progs, h.eras, h.sins, ⟨by have := h.fuse.1; show 0 ≤ S.fuse - 1; omega, by have := h.fuse.2; show S.fuse - 1 ≤ _; omega⟩, h.blank, h.few, h.pages, h.len⟩
theorem PlayOk.progs1 (h : PlayOk S m) : PlayOk (progsS S) (m + 1) := by
  have h2 := h.mono (Nat.le_succ m)
  exact ⟨h.size, h.torn, ⟨by have := h.progs.1; show 0 ≤ S.progs + 1; omega, by have := h.progs.2; show S.progs + 1 ≤ _; omega⟩, h2.eras, h2.sins, h.fuse, h.blank, h2.few, h.pages, h.len⟩
theorem PlayOk.eras1 (h : PlayOk S m) : PlayOk (erasS S) (m + 1) := by
  have h2 := h.mono (Nat.le_succ m)
  exact ⟨h.size, h.torn, h2.progs, ⟨by have := h.eras.1; show 0 ≤ S.eras + 1; omega, by have := h.eras.2; show S.eras + 1 ≤ _; omega⟩, h2.sins, h.fuse, h.blank, h2.few, h.pages, h.len⟩
theorem mem_set_pg {L : List Pg} {i : Nat} {x y : Pg} {P : Pg → Prop} (h : ∀ z ∈ L, P z) (hx : P x) (hy : y ∈ L.set i x) : P y := by
  rcases List.mem_or_eq_of_mem_set hy with h1 | h1
  · exact h y h1
  · rw [h1]; exact hx
theorem tornP_ok (h : PlayOk S m) : PgOk S.size (tornP S) := by
  unfold tornP
  by_cases hz : S.torn.size = 0
  · rw [if_pos hz]; exact h.blankPg
  · rw [if_neg hz]; exact filledP_ok _ _ (by omega)
theorem PlayOk.setPage (h : PlayOk S m) (k i : Nat) (x : Pg) (hx : PgOk S.size x) : PlayOk (S.put k { S.blk k with pages := (S.blk k).pages.set i x }) m :=
  h.put k _ (fun hk => h.few k hk) (fun hk y hy => mem_set_pg (h.pages k hk) hx hy) (fun hk => by show ((S.blk k).pages.set i x).length = _; rw [List.length_set]; exact h.len k hk)
theorem PlayOk.prog (h : PlayOk S m) (b i : Int) (d t : ByteArray) : PlayOk (progT S b i d t).1 (m + 1) := by
  unfold progT
  split
  · exact h.mono (by omega)
  · split
    · exact h.mono (by omega)
    · rename_i hd
      split
      · exact h.sin _ _
      · show PlayOk (progS S b.toNat i.toNat d t) (m + 1)
        have hn : PlayOk (cutS (progsS (S.put b.toNat { S.blk b.toNat with next := (i.toNat : Int) + 1 }))) (m + 1) :=
          (PlayOk.progs1 (h.put b.toNat { S.blk b.toNat with next := (i.toNat : Int) + 1 } (fun hk => h.few _ hk) (fun hk => h.pages _ hk) (fun hk => h.len _ hk))).cut
        have hz : (cutS (progsS (S.put b.toNat { S.blk b.toNat with next := (i.toNat : Int) + 1 }))).size = S.size := by rw [cut_size]; rfl
        unfold progS
        dsimp only
        split
        · exact hn.setPage _ _ _ (tornP_ok hn)
        · split
          · exact hn.put _ _ (fun hk => hn.few _ hk) (fun hk y hy => mem_set_pg (hn.pages _ hk) (by rw [hz]; exact filledP_ok _ _ (by decide)) hy) (fun hk => by show (List.set _ _ _).length = _; rw [List.length_set]; exact hn.len _ hk)
          · exact hn.setPage _ _ _ (by
              rw [hz]
              refine ⟨?_, ?_⟩
              · by_cases h1 : d.size = S.size; exact h1; exact absurd (.inl h1) hd
              · by_cases h1 : t.size = 32; exact h1; exact absurd (.inr h1) hd)
theorem wipeG_ok {z : Nat} {x : Pg} {L : List Pg} {g : Nat → Bool} (hx : PgOk z x) (hL : ∀ y ∈ L, PgOk z y) : ∀ j, ∀ y ∈ wipeG x L g j, PgOk z y
  | 0, y, hy => hL y hy
  | j + 1, y, hy => by
    rw [wipeG] at hy
    split at hy
    · exact mem_set_pg (wipeG_ok hx hL j) hx hy
    · exact wipeG_ok hx hL j y hy
theorem PlayOk.erase (h : PlayOk S m) (b : Int) : PlayOk (eraseT S b).1 (m + 1) := by
  have hc : PlayOk (cutS (erasS S)) (m + 1) := h.eras1.cut
  have hz : (cutS (erasS S)).size = S.size := by rw [cut_size]; rfl
  have hb : ∀ k, (cutS (erasS S)).blk k = S.blk k := fun k => by rw [cut_blk]; rfl
  have hbl : (cutS (erasS S)).blank = S.blank := by rw [cut_blank]; rfl
  have hg : (cutS (erasS S)).pgs = S.pgs := by rw [cut_pgs]; rfl
  have hl : (cutS (erasS S)).L = S.L := by rw [cut_len]; rfl
  unfold eraseT
  split
  · exact h.mono (by omega)
  · split
    · exact h.sin _ _
    · split
      · show PlayOk (eraseCut S b.toNat) (m + 1)
        unfold eraseCut
        exact hc.put _ _ (fun hk => hc.few _ hk) (fun hk y hy => by
          refine wipeG_ok ?_ ?_ _ y hy
          · rw [hz, hbl]; exact h.blankPg
          · exact hc.pages _ hk) (fun hk => by show (wipeG _ _ _ _).length = _; rw [wipeG_length]; exact hc.len _ hk)
      · show PlayOk (erasedS S b.toNat) (m + 1)
        unfold erasedS
        dsimp only
        split
        · exact hc.put _ _ (fun hk => by have := hc.few _ hk; rw [hb] at this; exact this) (fun hk => by have := hc.pages _ hk; rw [hb] at this; exact this) (fun hk => by have := hc.len _ hk; rw [hb] at this; exact this)
        · exact hc.put _ _ (fun hk => by
              rw [hl] at hk
              have := h.few _ hk
              show 0 ≤ (S.blk b.toNat).erased + 1 ∧ (S.blk b.toNat).erased + 1 ≤ ((m + 1 : Nat) : Int)
              omega) (fun hk y hy => by
              rw [← wipeG_all] at hy
              refine wipeG_ok ?_ ?_ _ y hy
              · rw [hz]; exact h.blankPg
              · rw [hz]; exact h.pages _ (by rw [hl] at hk; exact hk)) (fun hk => by
              show (wipeP _ _ _).length = _
              rw [wipeP_length, hg]
              exact h.len _ (by rw [hl] at hk; exact hk))
theorem PlayOk.wreck (h : PlayOk S m) (b : Int) : PlayOk (wreckS S b) m := by
  unfold wreckS
  split
  · exact h.put _ _ (fun hk => h.few _ hk) (fun hk => h.pages _ hk) (fun hk => h.len _ hk)
  · exact h
theorem PlayOk.setFuse (h : PlayOk S m) (x : Int) (hx : 0 ≤ x ∧ x ≤ 9223372036854775807) (t : ByteArray) (ht : t.size ≤ 1000000) : PlayOk { S with fuse := x, torn := t } m :=
  ⟨h.size, ht, h.progs, h.eras, h.sins, hx, h.blank, h.few, h.pages, h.len⟩
theorem PlayOk.on (h : PlayOk S m) : PlayOk (onS S) m := by
  have hb : ∀ k, k < S.L.length → (onS S).blk k = clrB (S.blk k) := fun k hk => by
    unfold onS ChipM.blk
    simp [List.getD, hk]
  have hl : (onS S).L.length = S.L.length := by unfold onS; simp
  refine ⟨h.size, h.torn, h.progs, h.eras, h.sins, ⟨Int.le_refl _, by show (0 : Int) ≤ _; decide⟩, h.blank, fun k hk => ?_, fun k hk => ?_, fun k hk => ?_⟩
  all_goals
    rw [hl] at hk
    rw [hb k hk]
    first | exact h.few k hk | exact h.pages k hk | exact h.len k hk
end
end Go.Proofs.Ythippbckjldijaa
