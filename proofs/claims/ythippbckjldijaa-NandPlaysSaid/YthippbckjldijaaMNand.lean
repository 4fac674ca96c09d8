/-
  Layer 5: a chip as a value, and where it lies in memory.
-/
import Derived.Test.YthippbckjldijaaKitQ
namespace Go.Proofs.Ythippbckjldijaa
set_option linter.unusedSimpArgs false
set_option linter.unusedVariables false
open Go.RowKit

abbrev Pg := ByteArray × ByteArray
structure BlkM where
  pages : List Pg
  next : Int
  erased : Int
  mill : Bool
  weak : Bool
  failed : Bool
structure ChipM where
  pgs : Nat
  size : Nat
  blank : Pg
  L : List BlkM
  progs : Int
  eras : Int
  sins : Int
  fuse : Int
  torn : ByteArray
  off : Bool
def pg0 : Pg := (⟨#[]⟩, ⟨#[]⟩)
def blk0 : BlkM := ⟨[], 0, 0, false, false, false⟩
def pgC (_ : Nat) (x : Pg) : List Value := [.string x.1, .string x.2]
def blkC (g : Nat) (b : BlkM) : List Value := [.slice (some ⟨g, 0, none⟩) b.pages.length b.pages.length, .int .i64 b.next, .int .i64 b.erased, .bool b.mill, .bool b.weak, .bool b.failed]
def chipC (q : Nat) (S : ChipM) : List Value := [.int .i64 (S.L.length : Int), .int .i64 (S.pgs : Int), .int .i64 (S.size : Int), .string S.blank.1, .string S.blank.2, .slice (some ⟨q, 0, none⟩) S.L.length S.L.length, .int .i64 S.progs, .int .i64 S.eras, .int .i64 S.sins, .int .i64 S.fuse, .string S.torn, .bool S.off]
def ChipM.blk (S : ChipM) (k : Nat) : BlkM := S.L.getD k blk0
def ChipM.put (S : ChipM) (k : Nat) (b : BlkM) : ChipM := { S with L := S.L.set k b }
/-- a chip lies at block p, its blocks at q, their pages at these -/
structure NandAt (w : World) (p q B : Nat) (G : Nat → Nat) (S : ChipM) : Prop where
  head : w.heap[p]? = some (.cells (chipC q S).toArray 74 (0, 0))
  row : RwAt w q 78 6 (fun k b => blkC (G k) b) blk0 S.L
  page : ∀ k, k < S.L.length → RwAt w (G k) 70 2 pgC pg0 (S.blk k).pages
  inj : ∀ i j, i < S.L.length → j < S.L.length → G i = G j → i = j
  base : B ≤ p ∧ B ≤ q ∧ ∀ k, k < S.L.length → B ≤ G k
  len : ∀ k, k < S.L.length → (S.blk k).pages.length = S.pgs
  few : S.L.length ≤ 256 ∧ S.pgs ≤ 64
theorem NandAt.below {w w' : World} {p q B : Nat} {G : Nat → Nat} {S : ChipM} (h : NandAt w p q B G S) (hb : Below w.heap.size w w') : NandAt w' p q B G S :=
  ⟨(hb.block _ (heap_lt h.head)).trans h.head, h.row.below hb, fun k hk => (h.page k hk).below hb, h.inj, h.base, h.len, h.few⟩
theorem NandAt.drewN {w : World} {p q B : Nat} {G : Nat → Nat} {S : ChipM} (h : NandAt w p q B G S) (n : Nat) : NandAt (w.drewN n) p q B G S :=
  ⟨h.head, h.row.kept rfl, fun k hk => (h.page k hk).kept rfl, h.inj, h.base, h.len, h.few⟩
theorem NandAt.drew {w : World} {p q B : Nat} {G : Nat → Nat} {S : ChipM} (h : NandAt w p q B G S) : NandAt w.drew p q B G S :=
  ⟨h.head, h.row.kept rfl, fun k hk => (h.page k hk).kept rfl, h.inj, h.base, h.len, h.few⟩
theorem NandAt.lt {w : World} {p q B : Nat} {G : Nat → Nat} {S : ChipM} (h : NandAt w p q B G S) : p < w.heap.size := heap_lt h.head
theorem NandAt.cell {w : World} {p q B : Nat} {G : Nat → Nat} {S : ChipM} (h : NandAt w p q B G S) (j : Nat) : w.cell? ⟨p, j, none⟩ = (chipC q S)[j]? := by
  rw [cell_of_block h.head]; simp
theorem NandAt.free {w : World} {p q B : Nat} {G : Nat → Nat} {S : ChipM} (h : NandAt w p q B G S) (j : Nat) : w.frozen? ⟨p, j, none⟩ = false := frozen_of_block h.head j
theorem NandAt.slot {w : World} {p q B : Nat} {G : Nat → Nat} {S : ChipM} (h : NandAt w p q B G S) (k : Nat) (hk : k < S.L.length) (j : Nat) (hj : j < 6) : w.cell? ⟨q, k * 6 + j, none⟩ = (blkC (G k) (S.blk k))[j]? := h.row.at k hk j hj
theorem NandAt.leaf {w : World} {p q B : Nat} {G : Nat → Nat} {S : ChipM} (h : NandAt w p q B G S) (k : Nat) (hk : k < S.L.length) (i : Nat) (hi : i < S.pgs) (j : Nat) (hj : j < 2) : w.cell? ⟨G k, i * 2 + j, none⟩ = (pgC i ((S.blk k).pages.getD i pg0))[j]? := (h.page k hk).at i (by rw [h.len k hk]; exact hi) j hj
theorem NandAt.qp {w : World} {p q B : Nat} {G : Nat → Nat} {S : ChipM} (h : NandAt w p q B G S) : q ≠ p := rows_apart_head h.row h.head (by decide)
theorem NandAt.gp {w : World} {p q B : Nat} {G : Nat → Nat} {S : ChipM} (h : NandAt w p q B G S) (k : Nat) (hk : k < S.L.length) : G k ≠ p := rows_apart_head (h.page k hk) h.head (by decide)
theorem NandAt.gq {w : World} {p q B : Nat} {G : Nat → Nat} {S : ChipM} (h : NandAt w p q B G S) (k : Nat) (hk : k < S.L.length) : G k ≠ q := rows_apart (h.page k hk) h.row (by decide)
/-- a cell of the chip's own is turned -/
theorem NandAt.setHead {w : World} {p q B : Nat} {G : Nat → Nat} {S : ChipM} (h : NandAt w p q B G S) (j : Nat) (v : Value) (S' : ChipM) (hl : S'.L = S.L) (hg : S'.pgs = S.pgs) (hc : chipC q S' = (chipC q S).set j v) : NandAt (w.setCell ⟨p, j, none⟩ v) p q B G S' := by
  have hb : ∀ k, S'.blk k = S.blk k := fun k => by unfold ChipM.blk; rw [hl]
  refine ⟨?_, by rw [hl]; exact h.row.other (Ne.symm h.qp) j v, fun k hk => ?_, by rw [hl]; exact h.inj, by rw [hl]; exact h.base, fun k hk => ?_, by rw [hl, hg]; exact h.few⟩
  · rw [block_setCell h.head, hc]; simp
  · rw [hl] at hk
    rw [hb]
    exact (h.page k hk).other (Ne.symm (h.gp k hk)) j v
  · rw [hl] at hk
    rw [hb, hg]
    exact h.len k hk
theorem blk_put_self (S : ChipM) (k : Nat) (b : BlkM) (hk : k < S.L.length) : (S.put k b).blk k = b := getD_set_self _ _ _ _ hk
theorem blk_put_other (S : ChipM) (k i : Nat) (b : BlkM) (hi : i ≠ k) : (S.put k b).blk i = S.blk i := getD_set_other _ _ _ _ _ hi
theorem put_length (S : ChipM) (k : Nat) (b : BlkM) : (S.put k b).L.length = S.L.length := List.length_set
theorem chipC_put (q : Nat) (S : ChipM) (k : Nat) (b : BlkM) : chipC q (S.put k b) = chipC q S := by unfold chipC; rw [put_length]; rfl
/-- a cell of a block's is turned, none of its pages -/
theorem NandAt.setBlk {w : World} {p q B : Nat} {G : Nat → Nat} {S : ChipM} (h : NandAt w p q B G S) (k : Nat) (hk : k < S.L.length) (j : Nat) (hj : j < 6) (v : Value) (b : BlkM) (hp : b.pages = (S.blk k).pages) (hc : blkC (G k) b = (blkC (G k) (S.blk k)).set j v) : NandAt (w.setCell ⟨q, k * 6 + j, none⟩ v) p q B G (S.put k b) := by
  have hpg : ∀ i, ((S.put k b).blk i).pages = (S.blk i).pages := fun i => by
    by_cases hi : i = k
    · subst hi; rw [blk_put_self S i b hk, hp]
    · rw [blk_put_other S k i b hi]
  refine ⟨?_, h.row.set k hk j hj v b hc hj, fun i hi => ?_, by rw [put_length]; exact h.inj, by rw [put_length]; exact h.base, fun i hi => ?_, by rw [put_length]; exact h.few⟩
  · rw [block_setCell_other h.qp, h.head, chipC_put]
  · rw [put_length] at hi
    rw [hpg]
    exact (h.page i hi).other (Ne.symm (h.gq i hi)) _ v
  · rw [put_length] at hi
    rw [hpg]
    exact h.len i hi
/-- a cell of a page's is turned -/
theorem NandAt.setPage {w : World} {p q B : Nat} {G : Nat → Nat} {S : ChipM} (h : NandAt w p q B G S) (k : Nat) (hk : k < S.L.length) (i : Nat) (hi : i < S.pgs) (j : Nat) (hj : j < 2) (v : Value) (x : Pg) (hc : pgC i x = (pgC i ((S.blk k).pages.getD i pg0)).set j v) :
    NandAt (w.setCell ⟨G k, i * 2 + j, none⟩ v) p q B G (S.put k { S.blk k with pages := (S.blk k).pages.set i x }) := by
  refine ⟨?_, ?_, fun i' hi' => ?_, by rw [put_length]; exact h.inj, by rw [put_length]; exact h.base, fun i' hi' => ?_, by rw [put_length]; exact h.few⟩
  · rw [block_setCell_other (h.gp k hk), h.head, chipC_put]
  · obtain ⟨cs, h1, h2, h3⟩ := (h.row.other (h.gq k hk) (i * 2 + j) v).ex
    refine ⟨cs, h1, by rw [put_length]; exact h2, fun k' hk' j' hj' => ?_⟩
    rw [put_length] at hk'
    rw [h3 k' hk' j' hj']
    show _ = (blkC (G k') ((S.put k { S.blk k with pages := (S.blk k).pages.set i x }).blk k'))[j']?
    by_cases hkk : k' = k
    · subst hkk
      rw [blk_put_self S k' _ hk']
      simp [blkC, ChipM.blk]
    · rw [blk_put_other S k k' _ hkk]; rfl
  · rw [put_length] at hi'
    by_cases hkk : i' = k
    · subst hkk
      rw [blk_put_self S i' _ hk]
      exact (h.page i' hk).set i (by rw [h.len i' hk]; exact hi) j hj v x hc hj
    · rw [blk_put_other S k i' _ hkk]
      exact (h.page i' hi').other (fun e => hkk (h.inj i' k hi' hk e.symm)) _ v
  · rw [put_length] at hi'
    by_cases hkk : i' = k
    · subst hkk
      rw [blk_put_self S i' _ hk]
      show ((S.blk i').pages.set i x).length = S.pgs
      rw [List.length_set, h.len i' hk]
    · rw [blk_put_other S k i' _ hkk]
      exact h.len i' hi'
/-- what is told ahead of the block's state -/
def askE (S : ChipM) (b i : Int) : Int := if S.off then 9 else if 0 ≤ b ∧ b < S.L.length ∧ 0 ≤ i ∧ i < S.pgs then 0 else 3
end Go.Proofs.Ythippbckjldijaa
