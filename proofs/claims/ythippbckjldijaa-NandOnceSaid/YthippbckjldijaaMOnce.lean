/-
  Layer 5's laws: the chip of NandOnce as a value, and what its map holds.
-/
import Derived.Test.YthippbckjldijaaNand20
--import Derived.Test.Zdbg
namespace Go.Proofs.Ythippbckjldijaa
set_option linter.unusedSimpArgs false
set_option linter.unusedVariables false
open Go.RowKit Go.WideShapes Go.ChangeShapes Go.ChangeAt Go.Deep

structure OnceB (b : BlkM) (n : Nat) : Prop where
  mill : b.mill = false
  weak : b.weak = false
  failed : b.failed = false
  next : 0 ≤ b.next ∧ b.next ≤ 4
  plen : b.pages.length = 4
  blank : ∀ i : Nat, i < 4 → b.next ≤ (i : Int) → b.pages.getD i pg0 = filledP 32 ffB
  full : ∀ i : Nat, i < 4 → (i : Int) < b.next → (b.pages.getD i pg0).2.size = 32
  erased : 0 ≤ b.erased ∧ b.erased ≤ (n : Int)
structure OnceI (S : ChipM) (n : Nat) : Prop where
  len : S.L.length = 4
  pgs : S.pgs = 4
  size : S.size = 32
  off : S.off = false
  fuse : S.fuse = 0
  torn : S.torn = ⟨#[]⟩
  blank : S.blank = filledP 32 ffB
  progs : 0 ≤ S.progs ∧ S.progs ≤ (n : Int)
  eras : 0 ≤ S.eras ∧ S.eras ≤ (n : Int)
  sins : 0 ≤ S.sins ∧ S.sins ≤ (n : Int)
  blk : ∀ k, k < 4 → OnceB (S.blk k) n
theorem OnceB.more {b : BlkM} {n : Nat} (h : OnceB b n) : OnceB b (n + 1) := { h with erased := by have := h.erased; omega }
theorem OnceI.ok {S : ChipM} {n : Nat} (h : OnceI S n) (hn : n ≤ 1000) : NandOk S :=
  ⟨by rw [h.size]; decide, by rw [h.torn]; decide, by have := h.progs; omega, by have := h.eras; omega, by have := h.sins; omega, by rw [h.fuse]; decide⟩
theorem OnceI.few {S : ChipM} {n : Nat} (h : OnceI S n) (hn : n ≤ 1000) : FewE S := fun k hk => by
  rw [h.len] at hk
  have := (h.blk k hk).erased
  omega
/-- what the map holds -/
def KnownF (S : ChipM) (f : Lit → Option Value) : Prop := ∀ k i : Nat, k < 4 → i < 4 → f (pairL (k : Int) (i : Int)) = if (i : Int) < (S.blk k).next then some (.string ((S.blk k).pages.getD i pg0).1) else none
theorem once_first : OnceI (newS 4 4 32) 0 :=
  ⟨rfl, rfl, rfl, rfl, rfl, rfl, rfl, by decide, by decide, by decide, fun k hk => by
    rw [newS_blk 4 4 32 k hk]
    refine ⟨rfl, rfl, rfl, by decide, rfl, fun i hi _ => ?_, fun i hi h => absurd h (by show ¬ (i : Int) < 0; omega), by decide⟩
    have h4 : i = 0 ∨ i = 1 ∨ i = 2 ∨ i = 3 := by omega
    rcases h4 with rfl | rfl | rfl | rfl <;> rfl⟩
theorem known_first : KnownF (newS 4 4 32) (fun _ => none) := fun k i hk hi => by
  rw [newS_blk 4 4 32 k hk, if_neg (by show ¬ (i : Int) < 0; omega)]
theorem wide_small {k : Nat} (h : k < 4) : Wide64 (k : Int) := by unfold Wide64; omega
theorem pair_same {k i k' i' : Nat} (hk : k < 4) (hi : i < 4) (hk' : k' < 4) (hi' : i' < 4) : (pairL (k' : Int) (i' : Int)).sameKey (pairL (k : Int) (i : Int)) = true ↔ k' = k ∧ i' = i := by
  constructor
  · intro h
    have h1 := WideAt.sameKey_eq h
    have := pair_inj (wide_small hk') (wide_small hi') (wide_small hk) (wide_small hi) h1
    omega
  · rintro ⟨rfl, rfl⟩
    exact WideAt.sameKey_self (isKey_pair _ _)
theorem OnceI.ask {S : ChipM} {n : Nat} (h : OnceI S n) {k i : Nat} (hk : k < 4) (hi : i < 4) : askE S (k : Int) (i : Int) = 0 := by
  unfold askE
  rw [h.off, if_neg (by decide), if_pos ⟨by omega, by rw [h.len]; omega, by omega, by rw [h.pgs]; omega⟩]
theorem OnceI.read {S : ChipM} {n : Nat} (h : OnceI S n) {k i : Nat} (hk : k < 4) (hi : i < 4) : readP S (k : Int) (i : Int) = (S.blk k).pages.getD i pg0 := by
  unfold readP
  rw [if_pos (h.ask hk hi), Int.toNat_natCast, Int.toNat_natCast]
theorem OnceI.sinE {S : ChipM} {n : Nat} (h : OnceI S n) {k : Nat} (hk : k < 4) (o : Bool) : sinE (S.blk k) o = if o = true then 11 else 0 := by
  unfold Go.Proofs.Ythippbckjldijaa.sinE
  rw [if_neg (by rw [(h.blk k hk).failed, (h.blk k hk).mill]; decide)]
/-- what is read is a page's bytes: beside them 32 -/
theorem OnceI.beside {S : ChipM} {n : Nat} (h : OnceI S n) {k i : Nat} (hk : k < 4) (hi : i < 4) : ((S.blk k).pages.getD i pg0).2.size = 32 := by
  by_cases hx : (i : Int) < (S.blk k).next
  · exact (h.blk k hk).full i hi hx
  · rw [(h.blk k hk).blank i hi (by omega)]
    exact (filled_size 32 ffB (by decide)).2
theorem OnceI.order {S : ChipM} {n : Nat} (h : OnceI S n) {k i : Nat} (hk : k < 4) (hi : i < 4) (d e : ByteArray) (hd : d.size = 32) (he : e.size = 32) (ho : ¬ (i : Int) = (S.blk k).next) :
    (progT S (k : Int) (i : Int) d e).2 = 11 ∧ OnceI (progT S (k : Int) (i : Int) d e).1 (n + 1) ∧ (progT S (k : Int) (i : Int) d e).1.L = S.L := by
  have hdec : decide ((i : Int) ≠ (S.blk k).next) = true := decide_eq_true ho
  have e1 : progT S (k : Int) (i : Int) d e = ({ S with sins := S.sins + 1 }, 11) := by
    unfold progT
    rw [if_neg (fun hn => hn (h.ask hk hi)), if_neg (by rw [hd, he, h.size]; decide), Int.toNat_natCast, hdec, h.sinE hk, if_pos rfl, if_pos (by decide)]
    unfold sinS
    rw [h.sinE hk, if_pos rfl, if_neg (by decide)]
  rw [e1]
  exact ⟨rfl, { h with progs := by have := h.progs; show 0 ≤ S.progs ∧ S.progs ≤ ((n + 1 : Nat) : Int); omega, eras := by have := h.eras; show 0 ≤ S.eras ∧ S.eras ≤ ((n + 1 : Nat) : Int); omega, sins := by have := h.sins; show 0 ≤ S.sins + 1 ∧ S.sins + 1 ≤ ((n + 1 : Nat) : Int); omega, blk := fun k hk => (h.blk k hk).more }, rfl⟩
theorem put_blk (S : ChipM) (k : Nat) (b : BlkM) (hk : k < S.L.length) (i : Nat) : (S.put k b).blk i = if i = k then b else S.blk i := by
  by_cases h : i = k
  · subst h; rw [if_pos rfl, blk_put_self S i b hk]
  · rw [if_neg h, blk_put_other S k i b h]
/-- a page is programmed -/
theorem OnceI.prog {S : ChipM} {n : Nat} (h : OnceI S n) {k i : Nat} (hk : k < 4) (hi : i < 4) (d e : ByteArray) (hd : d.size = 32) (he : e.size = 32) (ho : (i : Int) = (S.blk k).next) :
    (progT S (k : Int) (i : Int) d e).2 = 0 ∧ OnceI (progT S (k : Int) (i : Int) d e).1 (n + 1) ∧ ∀ j, (progT S (k : Int) (i : Int) d e).1.blk j = if j = k then { S.blk k with next := (i : Int) + 1, pages := (S.blk k).pages.set i (d, e) } else S.blk j := by
  have hl : k < S.L.length := by rw [h.len]; exact hk
  have hdec : decide ((i : Int) ≠ (S.blk k).next) = false := decide_eq_false (fun hn => hn ho)
  have e1 : progT S (k : Int) (i : Int) d e = (progS S k i d e, 0) := by
    unfold progT
    rw [if_neg (fun hn => hn (h.ask hk hi)), if_neg (by rw [hd, he, h.size]; decide), Int.toNat_natCast, hdec, h.sinE hk, if_neg (by decide), Int.toNat_natCast]
    unfold progE
    rw [if_neg (by rw [h.fuse]; decide), if_neg (by rw [(h.blk k hk).weak]; decide)]
  have e2 : progS S k i d e = (progsS (S.put k { S.blk k with next := (i : Int) + 1 })).put k { (progsS (S.put k { S.blk k with next := (i : Int) + 1 })).blk k with pages := ((progsS (S.put k { S.blk k with next := (i : Int) + 1 })).blk k).pages.set i (d, e) } := by
    unfold progS
    rw [if_neg (by rw [h.fuse]; decide), if_neg (by rw [(h.blk k hk).weak]; decide)]
    rw [show cutS (progsS (S.put k { S.blk k with next := (i : Int) + 1 })) = progsS (S.put k { S.blk k with next := (i : Int) + 1 }) from if_pos h.fuse]
  have e3 : (progsS (S.put k { S.blk k with next := (i : Int) + 1 })).blk k = { S.blk k with next := (i : Int) + 1 } := blk_put_self S k _ hl
  rw [e3] at e2
  have e4 : ∀ j, (progS S k i d e).blk j = if j = k then { S.blk k with next := (i : Int) + 1, pages := (S.blk k).pages.set i (d, e) } else S.blk j := fun j => by
    rw [e2, put_blk _ k _ (by show k < (S.put k _).L.length; rw [put_length]; exact hl)]
    by_cases hj : j = k
    · rw [if_pos hj, if_pos hj]
    · rw [if_neg hj, if_neg hj]
      exact blk_put_other S k j _ hj
  rw [e1]
  refine ⟨rfl, ?_, e4⟩
  show OnceI (progS S k i d e) (n + 1)
  have hb := h.blk k hk
  refine ⟨by rw [e2, put_length]; show (S.put k _).L.length = 4; rw [put_length, h.len], by rw [e2]; exact h.pgs, by rw [e2]; exact h.size, by rw [e2]; exact h.off, by rw [e2]; exact h.fuse, by rw [e2]; exact h.torn, by rw [e2]; exact h.blank, ?_, ?_, ?_, fun j hj => ?_⟩
  · rw [e2]; have := h.progs; show 0 ≤ S.progs + 1 ∧ S.progs + 1 ≤ ((n + 1 : Nat) : Int); omega
  · rw [e2]; have := h.eras; show 0 ≤ S.eras ∧ S.eras ≤ ((n + 1 : Nat) : Int); omega
  · rw [e2]; have := h.sins; show 0 ≤ S.sins ∧ S.sins ≤ ((n + 1 : Nat) : Int); omega
  · rw [e4 j]
    by_cases hjk : j = k
    · subst hjk
      rw [if_pos rfl]
      refine ⟨hb.mill, hb.weak, hb.failed, ⟨by show 0 ≤ (i : Int) + 1; omega, by show (i : Int) + 1 ≤ 4; omega⟩, by show ((S.blk j).pages.set i _).length = 4; rw [List.length_set, hb.plen], fun i' hi' hx => ?_, fun i' hi' hx => ?_, by have := hb.erased; show 0 ≤ (S.blk j).erased ∧ (S.blk j).erased ≤ ((n + 1 : Nat) : Int); omega⟩
      · have hx2 : (i : Int) + 1 ≤ (i' : Int) := hx
        show ((S.blk j).pages.set i _).getD i' pg0 = _
        rw [getD_set_other _ _ _ _ _ (by omega)]
        exact hb.blank i' hi' (by omega)
      · have hx2 : (i' : Int) < (i : Int) + 1 := hx
        show (((S.blk j).pages.set i _).getD i' pg0).2.size = 32
        by_cases hii : i' = i
        · subst hii
          rw [getD_set_self _ _ _ _ (by rw [hb.plen]; exact hi)]
          exact he
        · rw [getD_set_other _ _ _ _ _ hii]
          exact hb.full i' hi' (by omega)
    · rw [if_neg hjk]
      exact (h.blk j hj).more
theorem known_prog {S S' : ChipM} {f : Lit → Option Value} (h : KnownF S f) {k i : Nat} (hk : k < 4) (hi : i < 4) (d e : ByteArray) (hl : (S.blk k).pages.length = 4) (ho : (i : Int) = (S.blk k).next) (hb : ∀ j, S'.blk j = if j = k then { S.blk k with next := (i : Int) + 1, pages := (S.blk k).pages.set i (d, e) } else S.blk j) :
    KnownF S' (fun l => if l.sameKey (pairL (k : Int) (i : Int)) = true then some (.string d) else f l) := fun k' i' hk' hi' => by
  dsimp only
  rw [hb k']
  by_cases hs : k' = k ∧ i' = i
  · rw [if_pos ((pair_same hk hi hk' hi').2 hs)]
    obtain ⟨rfl, rfl⟩ := hs
    rw [if_pos rfl]
    show _ = if (i' : Int) < (i' : Int) + 1 then some (Value.string (((S.blk k').pages.set i' (d, e)).getD i' pg0).1) else none
    rw [if_pos (by omega), getD_set_self _ _ _ _ (by rw [hl]; exact hi)]
  · rw [if_neg (fun hn => hs ((pair_same hk hi hk' hi').1 hn)), h k' i' hk' hi']
    by_cases hkk : k' = k
    · subst hkk
      have hii : i' ≠ i := fun e => hs ⟨rfl, e⟩
      rw [if_pos rfl]
      show _ = if (i' : Int) < (i : Int) + 1 then some (Value.string (((S.blk k').pages.set i (d, e)).getD i' pg0).1) else none
      rw [getD_set_other _ _ _ _ _ hii]
      by_cases hx : (i' : Int) < (S.blk k').next
      · rw [if_pos hx, if_pos (by omega)]
      · rw [if_neg hx, if_neg (by omega)]
    · rw [if_neg hkk]
theorem wipeP_at (x : Pg) (L : List Pg) : ∀ (m i : Nat), i < m → i < L.length → (wipeP x L m).getD i pg0 = x
  | 0, i, h, _ => by omega
  | m + 1, i, h, hl => by
    rw [wipeP]
    by_cases e : i = m
    · subst e
      exact getD_set_self _ _ _ _ (by rw [wipeP_length]; exact hl)
    · rw [getD_set_other _ _ _ _ _ e]
      exact wipeP_at x L m i (by omega) hl
/-- a block is erased -/
theorem OnceI.erase {S : ChipM} {n : Nat} (h : OnceI S n) {k : Nat} (hk : k < 4) :
    (eraseT S (k : Int)).2 = 0 ∧ OnceI (eraseT S (k : Int)).1 (n + 1) ∧ (∀ j, j ≠ k → (eraseT S (k : Int)).1.blk j = S.blk j) ∧ ((eraseT S (k : Int)).1.blk k).next = 0 := by
  have hl : k < S.L.length := by rw [h.len]; exact hk
  have hb := h.blk k hk
  have e1 : eraseT S (k : Int) = (erasedS S k, 0) := by
    unfold eraseT
    rw [if_neg (fun hn => hn (by have := h.ask hk (show 0 < 4 by decide); exact this)), Int.toNat_natCast, h.sinE hk, if_neg (by decide), if_neg (by rw [h.fuse]; decide)]
    unfold erasedE
    rw [if_neg (by rw [hb.weak]; decide)]
  have e2 : erasedS S k = (erasS S).put k { S.blk k with pages := wipeP S.blank (S.blk k).pages S.pgs, next := 0, erased := (S.blk k).erased + 1 } := by
    unfold erasedS
    rw [if_neg (by rw [hb.weak]; decide), show cutS (erasS S) = erasS S from if_pos h.fuse]
  have e4 : ∀ j, (erasedS S k).blk j = if j = k then { S.blk k with pages := wipeP S.blank (S.blk k).pages S.pgs, next := 0, erased := (S.blk k).erased + 1 } else S.blk j := fun j => by
    rw [e2, put_blk _ k _ (by exact hl)]
    rfl
  rw [e1]
  refine ⟨rfl, ?_, fun j hj => by show (erasedS S k).blk j = _; rw [e4, if_neg hj], by show ((erasedS S k).blk k).next = 0; rw [e4, if_pos rfl]⟩
  show OnceI (erasedS S k) (n + 1)
  refine ⟨by rw [e2, put_length]; exact h.len, by rw [e2]; exact h.pgs, by rw [e2]; exact h.size, by rw [e2]; exact h.off, by rw [e2]; exact h.fuse, by rw [e2]; exact h.torn, by rw [e2]; exact h.blank, ?_, ?_, ?_, fun j hj => ?_⟩
  · rw [e2]; have := h.progs; show 0 ≤ S.progs ∧ S.progs ≤ ((n + 1 : Nat) : Int); omega
  · rw [e2]; have := h.eras; show 0 ≤ S.eras + 1 ∧ S.eras + 1 ≤ ((n + 1 : Nat) : Int); omega
  · rw [e2]; have := h.sins; show 0 ≤ S.sins ∧ S.sins ≤ ((n + 1 : Nat) : Int); omega
  · rw [e4 j]
    by_cases hjk : j = k
    · subst hjk
      rw [if_pos rfl]
      refine ⟨hb.mill, hb.weak, hb.failed, by show (0 : Int) ≤ 0 ∧ (0 : Int) ≤ 4; omega, by show (wipeP _ _ _).length = 4; rw [wipeP_length, hb.plen], fun i hi hx => ?_, fun i hi hx => absurd hx (by show ¬ (i : Int) < 0; omega), by have := hb.erased; show 0 ≤ (S.blk j).erased + 1 ∧ (S.blk j).erased + 1 ≤ ((n + 1 : Nat) : Int); omega⟩
      show (wipeP S.blank (S.blk j).pages S.pgs).getD i pg0 = _
      rw [wipeP_at _ _ _ _ (by rw [h.pgs]; exact hi) (by rw [hb.plen]; exact hi), h.blank]
    · rw [if_neg hjk]
      exact (h.blk j hj).more
/-- the first j of a block's keys are gone -/
def GoneF (S : ChipM) (k j : Nat) (f : Lit → Option Value) : Prop := ∀ k' i' : Nat, k' < 4 → i' < 4 → f (pairL (k' : Int) (i' : Int)) = if k' = k ∧ i' < j then none else if (i' : Int) < (S.blk k').next then some (.string ((S.blk k').pages.getD i' pg0).1) else none
theorem gone_first {S : ChipM} {f : Lit → Option Value} (h : KnownF S f) (k : Nat) : GoneF S k 0 f := fun k' i' hk' hi' => by
  rw [if_neg (by omega)]
  exact h k' i' hk' hi'
theorem gone_next {S : ChipM} {f : Lit → Option Value} {k j : Nat} (hk : k < 4) (hj : j < 4) (h : GoneF S k j f) : GoneF S k (j + 1) (fun l => if l.sameKey (pairL (k : Int) (j : Int)) = true then none else f l) := fun k' i' hk' hi' => by
  dsimp only
  by_cases hs : k' = k ∧ i' = j
  · rw [if_pos ((pair_same hk hj hk' hi').2 hs), if_pos ⟨hs.1, by omega⟩]
  · rw [if_neg (fun hn => hs ((pair_same hk hj hk' hi').1 hn)), h k' i' hk' hi']
    by_cases h1 : k' = k ∧ i' < j
    · rw [if_pos h1, if_pos ⟨h1.1, by omega⟩]
    · have h2 : ¬ (k' = k ∧ i' < j + 1) := fun hn => by
        have h3 := hn.2
        by_cases e : i' = j
        · exact hs ⟨hn.1, e⟩
        · exact h1 ⟨hn.1, by omega⟩
      rw [if_neg h1, if_neg h2]
theorem gone_done {S S' : ChipM} {f : Lit → Option Value} {k : Nat} (hk : k < 4) (h : GoneF S k 4 f) (ho : ∀ j, j ≠ k → S'.blk j = S.blk j) (h0 : (S'.blk k).next = 0) : KnownF S' f := fun k' i' hk' hi' => by
  rw [h k' i' hk' hi']
  by_cases e : k' = k
  · subst e
    rw [if_pos ⟨rfl, hi'⟩, h0, if_neg (by omega)]
  · rw [if_neg (fun hn => e hn.1), ho k' e]
end Go.Proofs.Ythippbckjldijaa
