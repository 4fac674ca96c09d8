/-
  Lemmas and contracts of this project's own, put together: KitP, KitQ, MNand, Nand, Nand2.
-/
import Derived.Lib.OwnKind
import Derived.Test.YtjfmkfhjbdiojaaGreatPk5
namespace Go.Proofs.YtjfmkfhjbdiojaaGreat
set_option linter.unusedSimpArgs false
set_option linter.unusedVariables false
open Go.RowKit

/-- all that is no row of these types is as it was -/
def KeepsT (Ts : List TypeId) (w w' : World) : Prop := ∀ (k : Nat) (o : Obj), w.heap[k]? = some o → (∀ c t fz, o = .cells c t fz → t ∉ Ts) → w'.heap[k]? = some o
theorem KeepsT.refl (Ts : List TypeId) (w : World) : KeepsT Ts w w := fun _ _ h _ => h
theorem KeepsT.of_below {Ts : List TypeId} {w w' : World} (h : Below w.heap.size w w') : KeepsT Ts w w' := fun k _ hk _ => (h.block k (heap_lt hk)).trans hk
theorem KeepsT.trans {Ts : List TypeId} {a b c : World} (h : KeepsT Ts a b) (k : KeepsT Ts b c) : KeepsT Ts a c := fun i o hi ht => k i o (h i o hi ht) ht
theorem KeepsT.mono {Ts Us : List TypeId} {a b : World} (h : KeepsT Ts a b) (hs : ∀ t ∈ Ts, t ∈ Us) : KeepsT Us a b := fun i o hi ht => h i o hi fun c t fz e hm => ht c t fz e (hs t hm)
theorem KeepsT.setCell {Ts : List TypeId} {w : World} {p : Nat} {c : Array Value} {t : TypeId} {fz : Nat × Nat} (h : w.heap[p]? = some (.cells c t fz)) (ht : t ∈ Ts) (j : Nat) (v : Value) : KeepsT Ts w (w.setCell ⟨p, j, none⟩ v) := fun k o hk hn => by
  have hne : p ≠ k := fun e => by
    subst e
    rw [h] at hk
    exact hn _ _ _ (Option.some.inj hk).symm ht
  rw [block_setCell_other hne]
  exact hk
theorem KeepsT.grown {Ts : List TypeId} {w w' : World} {B e m n : Nat} {v : Value} {xs : List Value} (ho : w.ownsRow B e m v n xs) (ht : e ∈ Ts) (hg : w.grownBy w' v.ownBlock) : KeepsT Ts w w' := fun k o hk hn => by
  refine (hg.block k (heap_lt hk) fun hq => ?_).trans hk
  obtain ⟨c, fz, hc⟩ := Go.Lib.ownsRow_kind ho k hq.symm
  rw [hk] at hc
  exact hn _ _ _ (Option.some.inj hc) ht
theorem KeepsT.cells {Ts : List TypeId} {w w' : World} (h : KeepsT Ts w w') {k : Nat} {c : Array Value} {t : TypeId} {fz : Nat × Nat} (hk : w.heap[k]? = some (.cells c t fz)) (ht : t ∉ Ts) : w'.heap[k]? = some (.cells c t fz) :=
  h k _ hk fun c' t' fz' e => by cases e; exact ht
theorem KeepsT.owns {Ts : List TypeId} {w w' : World} (h : KeepsT Ts w w') {B e m n : Nat} {v : Value} {xs : List Value} (ho : w.ownsRow B e m v n xs) (ht : e ∉ Ts) : w'.ownsRow B e m v n xs := by
  refine ⟨ho.1, ?_⟩
  rcases ho.2 with h3 | ⟨g, cap', cur, hv, hg, hh, h4⟩
  · exact .inl h3
  · exact .inr ⟨g, cap', cur, hv, hg, h.cells hh ht, h4⟩
theorem KeepsT.drewN {Ts : List TypeId} {a b : World} (h : KeepsT Ts a b) (n : Nat) : KeepsT Ts a (b.drewN n) := h
end Go.Proofs.YtjfmkfhjbdiojaaGreat

namespace Go.Proofs.YtjfmkfhjbdiojaaGreat
set_option linter.unusedSimpArgs false
set_option linter.unusedVariables false
open Go.RowKit

/-- block q is rows of n cells: the k-th has the cells f tells of the k-th of these -/
structure RwAt {α : Type} (w : World) (q : Nat) (T : TypeId) (n : Nat) (f : Nat → α → List Value) (d : α) (L : List α) : Prop where
  ex : ∃ cs : Array Value, w.heap[q]? = some (.cells cs T (0, 0)) ∧ cs.size = L.length * n ∧ ∀ k, k < L.length → ∀ j, j < n → cs[k * n + j]? = (f k (L.getD k d))[j]?
theorem RwAt.lt {α : Type} {w : World} {q : Nat} {T : TypeId} {n : Nat} {f : Nat → α → List Value} {d : α} {L : List α} (h : RwAt w q T n f d L) : q < w.heap.size := by
  obtain ⟨cs, h1, -⟩ := h.ex
  exact heap_lt h1
theorem RwAt.at {α : Type} {w : World} {q : Nat} {T : TypeId} {n : Nat} {f : Nat → α → List Value} {d : α} {L : List α} (h : RwAt w q T n f d L) (k : Nat) (hk : k < L.length) (j : Nat) (hj : j < n) : w.cell? ⟨q, k * n + j, none⟩ = (f k (L.getD k d))[j]? := by
  obtain ⟨cs, h1, h2, h3⟩ := h.ex
  rw [cell_of_block h1]
  exact h3 k hk j hj
theorem RwAt.free {α : Type} {w : World} {q : Nat} {T : TypeId} {n : Nat} {f : Nat → α → List Value} {d : α} {L : List α} (h : RwAt w q T n f d L) (j : Nat) : w.frozen? ⟨q, j, none⟩ = false := by
  obtain ⟨cs, h1, -⟩ := h.ex
  exact frozen_of_block h1 j
theorem RwAt.kept {α : Type} {w w' : World} {q : Nat} {T : TypeId} {n : Nat} {f : Nat → α → List Value} {d : α} {L : List α} (h : RwAt w q T n f d L) (hb : w'.heap[q]? = w.heap[q]?) : RwAt w' q T n f d L := by
  obtain ⟨cs, h1, h2⟩ := h.ex
  exact ⟨cs, hb.trans h1, h2⟩
theorem RwAt.below {α : Type} {w w' : World} {q : Nat} {T : TypeId} {n : Nat} {f : Nat → α → List Value} {d : α} {L : List α} (h : RwAt w q T n f d L) (hb : Below w.heap.size w w') : RwAt w' q T n f d L := h.kept (hb.block q h.lt)
theorem RwAt.other {α : Type} {w : World} {q : Nat} {T : TypeId} {n : Nat} {f : Nat → α → List Value} {d : α} {L : List α} (h : RwAt w q T n f d L) {g : Nat} (hg : g ≠ q) (j : Nat) (v : Value) : RwAt (w.setCell ⟨g, j, none⟩ v) q T n f d L := h.kept (block_setCell_other hg j v)
/-- blocks of unlike types are two -/
theorem rows_apart {α β : Type} {w : World} {q q' : Nat} {T T' : TypeId} {n n' : Nat} {f : Nat → α → List Value} {f' : Nat → β → List Value} {d : α} {d' : β} {L : List α} {L' : List β} (h : RwAt w q T n f d L) (h' : RwAt w q' T' n' f' d' L') (hT : T ≠ T') : q ≠ q' := fun e => by
  subst e
  obtain ⟨cs, h1, -⟩ := h.ex
  obtain ⟨cs', h1', -⟩ := h'.ex
  rw [h1] at h1'
  have h2 := Option.some.inj h1'
  injection h2 with _ h3
  exact hT h3
theorem rows_apart_head {α : Type} {w : World} {q p : Nat} {T T' : TypeId} {n : Nat} {f : Nat → α → List Value} {d : α} {L : List α} {c : Array Value} (h : RwAt w q T n f d L) (h' : w.heap[p]? = some (.cells c T' (0, 0))) (hT : T ≠ T') : q ≠ p := fun e => by
  subst e
  obtain ⟨cs, h1, -⟩ := h.ex
  rw [h1] at h'
  have h2 := Option.some.inj h'
  injection h2 with _ h3
  exact hT h3
theorem place_inj {n k k' j j' : Nat} (hj : j < n) (hj' : j' < n) (h : k * n + j = k' * n + j') : k = k' ∧ j = j' := by
  have h1 : (k * n + j) / n = k := by rw [Nat.mul_comm, Nat.mul_add_div (by omega), Nat.div_eq_of_lt hj, Nat.add_zero]
  have h2 : (k' * n + j') / n = k' := by rw [Nat.mul_comm, Nat.mul_add_div (by omega), Nat.div_eq_of_lt hj', Nat.add_zero]
  have h3 : k = k' := by rw [← h1, ← h2, h]
  subst h3
  exact ⟨rfl, by omega⟩
theorem getD_set_self {α : Type} (L : List α) (k : Nat) (x d : α) (hk : k < L.length) : (L.set k x).getD k d = x := by simp [List.getD, hk]
theorem getD_set_other {α : Type} (L : List α) (k i : Nat) (x d : α) (hi : i ≠ k) : (L.set k x).getD i d = L.getD i d := by simp [List.getD, List.getElem?_set, Ne.symm hi]
/-- one cell of one row is turned -/
theorem RwAt.set {α : Type} {w : World} {q : Nat} {T : TypeId} {n : Nat} {f : Nat → α → List Value} {d : α} {L : List α} (h : RwAt w q T n f d L) (k : Nat) (hk : k < L.length) (j : Nat) (hj : j < n) (v : Value) (x : α) (hx : f k x = (f k (L.getD k d)).set j v) (hl : j < (f k (L.getD k d)).length) : RwAt (w.setCell ⟨q, k * n + j, none⟩ v) q T n f d (L.set k x) := by
  obtain ⟨cs, h1, h2, h3⟩ := h.ex
  refine ⟨_, block_setCell h1 _ _, by simp [h2], fun k' hk' j' hj' => ?_⟩
  rw [List.length_set] at hk'
  have hin : k * n + j < cs.size := by
    rw [h2]
    have : (k + 1) * n ≤ L.length * n := Nat.mul_le_mul_right n hk
    rw [Nat.add_mul] at this
    omega
  by_cases hkk : k' = k
  · subst hkk
    rw [getD_set_self L k' x d hk, hx]
    by_cases hjj : j' = j
    · subst hjj
      rw [Array.getElem?_setIfInBounds, if_pos rfl, if_pos hin, List.getElem?_set, if_pos rfl, if_pos hl]
    · rw [Array.getElem?_setIfInBounds, if_neg (by omega), List.getElem?_set, if_neg (fun e => hjj e.symm)]
      exact h3 k' hk' j' hj'
  · rw [getD_set_other L k k' x d hkk, Array.getElem?_setIfInBounds, if_neg (fun e => hkk (place_inj hj hj' e).1.symm)]
    exact h3 k' hk' j' hj'
theorem below_drewN {B : Nat} {a b : World} (h : Below B a b) (n : Nat) : Below B a (b.drewN n) := ⟨h.os, h.tape, h.output, h.size, h.block⟩
end Go.Proofs.YtjfmkfhjbdiojaaGreat

namespace Go.Proofs.YtjfmkfhjbdiojaaGreat
set_option linter.unusedSimpArgs false
set_option linter.unusedVariables false
open Go.RowKit

abbrev Pg := ByteArray × ByteArray
structure BlkM where
  pages : List Pg
  next : Int
  erased : Int
  mill : Bool
  weak : Bool
  failed : Bool
structure ChipM where
  pgs : Nat
  size : Nat
  blank : Pg
  L : List BlkM
  progs : Int
  eras : Int
  sins : Int
  fuse : Int
  torn : ByteArray
  off : Bool
def pg0 : Pg := (⟨#[]⟩, ⟨#[]⟩)
def blk0 : BlkM := ⟨[], 0, 0, false, false, false⟩
def pgC (_ : Nat) (x : Pg) : List Value := [.string x.1, .string x.2]
def blkC (g : Nat) (b : BlkM) : List Value := [.slice (some ⟨g, 0, none⟩) b.pages.length b.pages.length, .int .i64 b.next, .int .i64 b.erased, .bool b.mill, .bool b.weak, .bool b.failed]
def chipC (q : Nat) (S : ChipM) : List Value := [.int .i64 (S.L.length : Int), .int .i64 (S.pgs : Int), .int .i64 (S.size : Int), .string S.blank.1, .string S.blank.2, .slice (some ⟨q, 0, none⟩) S.L.length S.L.length, .int .i64 S.progs, .int .i64 S.eras, .int .i64 S.sins, .int .i64 S.fuse, .string S.torn, .bool S.off]
def ChipM.blk (S : ChipM) (k : Nat) : BlkM := S.L.getD k blk0
def ChipM.put (S : ChipM) (k : Nat) (b : BlkM) : ChipM := { S with L := S.L.set k b }
/-- a chip lies at block p, its blocks at q, their pages at these -/
structure NandAt (w : World) (p q B : Nat) (G : Nat → Nat) (S : ChipM) : Prop where
  head : w.heap[p]? = some (.cells (chipC q S).toArray 111 (0, 0))
  row : RwAt w q 122 6 (fun k b => blkC (G k) b) blk0 S.L
  page : ∀ k, k < S.L.length → RwAt w (G k) 107 2 pgC pg0 (S.blk k).pages
  inj : ∀ i j, i < S.L.length → j < S.L.length → G i = G j → i = j
  base : B ≤ p ∧ B ≤ q ∧ ∀ k, k < S.L.length → B ≤ G k
  len : ∀ k, k < S.L.length → (S.blk k).pages.length = S.pgs
  few : S.L.length ≤ 256 ∧ S.pgs ≤ 64
theorem NandAt.below {w w' : World} {p q B : Nat} {G : Nat → Nat} {S : ChipM} (h : NandAt w p q B G S) (hb : Below w.heap.size w w') : NandAt w' p q B G S :=
  ⟨(hb.block _ (heap_lt h.head)).trans h.head, h.row.below hb, fun k hk => (h.page k hk).below hb, h.inj, h.base, h.len, h.few⟩
theorem NandAt.drewN {w : World} {p q B : Nat} {G : Nat → Nat} {S : ChipM} (h : NandAt w p q B G S) (n : Nat) : NandAt (w.drewN n) p q B G S :=
  ⟨h.head, h.row.kept rfl, fun k hk => (h.page k hk).kept rfl, h.inj, h.base, h.len, h.few⟩
theorem NandAt.drew {w : World} {p q B : Nat} {G : Nat → Nat} {S : ChipM} (h : NandAt w p q B G S) : NandAt w.drew p q B G S :=
  ⟨h.head, h.row.kept rfl, fun k hk => (h.page k hk).kept rfl, h.inj, h.base, h.len, h.few⟩
theorem NandAt.lt {w : World} {p q B : Nat} {G : Nat → Nat} {S : ChipM} (h : NandAt w p q B G S) : p < w.heap.size := heap_lt h.head
theorem NandAt.cell {w : World} {p q B : Nat} {G : Nat → Nat} {S : ChipM} (h : NandAt w p q B G S) (j : Nat) : w.cell? ⟨p, j, none⟩ = (chipC q S)[j]? := by
  rw [cell_of_block h.head]; simp
theorem NandAt.free {w : World} {p q B : Nat} {G : Nat → Nat} {S : ChipM} (h : NandAt w p q B G S) (j : Nat) : w.frozen? ⟨p, j, none⟩ = false := frozen_of_block h.head j
theorem NandAt.slot {w : World} {p q B : Nat} {G : Nat → Nat} {S : ChipM} (h : NandAt w p q B G S) (k : Nat) (hk : k < S.L.length) (j : Nat) (hj : j < 6) : w.cell? ⟨q, k * 6 + j, none⟩ = (blkC (G k) (S.blk k))[j]? := h.row.at k hk j hj
theorem NandAt.leaf {w : World} {p q B : Nat} {G : Nat → Nat} {S : ChipM} (h : NandAt w p q B G S) (k : Nat) (hk : k < S.L.length) (i : Nat) (hi : i < S.pgs) (j : Nat) (hj : j < 2) : w.cell? ⟨G k, i * 2 + j, none⟩ = (pgC i ((S.blk k).pages.getD i pg0))[j]? := (h.page k hk).at i (by rw [h.len k hk]; exact hi) j hj
theorem NandAt.qp {w : World} {p q B : Nat} {G : Nat → Nat} {S : ChipM} (h : NandAt w p q B G S) : q ≠ p := rows_apart_head h.row h.head (by decide)
theorem NandAt.gp {w : World} {p q B : Nat} {G : Nat → Nat} {S : ChipM} (h : NandAt w p q B G S) (k : Nat) (hk : k < S.L.length) : G k ≠ p := rows_apart_head (h.page k hk) h.head (by decide)
theorem NandAt.gq {w : World} {p q B : Nat} {G : Nat → Nat} {S : ChipM} (h : NandAt w p q B G S) (k : Nat) (hk : k < S.L.length) : G k ≠ q := rows_apart (h.page k hk) h.row (by decide)
/-- a cell of the chip's own is turned -/
theorem NandAt.setHead {w : World} {p q B : Nat} {G : Nat → Nat} {S : ChipM} (h : NandAt w p q B G S) (j : Nat) (v : Value) (S' : ChipM) (hl : S'.L = S.L) (hg : S'.pgs = S.pgs) (hc : chipC q S' = (chipC q S).set j v) : NandAt (w.setCell ⟨p, j, none⟩ v) p q B G S' := by
  have hb : ∀ k, S'.blk k = S.blk k := fun k => by unfold ChipM.blk; rw [hl]
  refine ⟨?_, by rw [hl]; exact h.row.other (Ne.symm h.qp) j v, fun k hk => ?_, by rw [hl]; exact h.inj, by rw [hl]; exact h.base, fun k hk => ?_, by rw [hl, hg]; exact h.few⟩
  · rw [block_setCell h.head, hc]; simp
  · rw [hl] at hk
    rw [hb]
    exact (h.page k hk).other (Ne.symm (h.gp k hk)) j v
  · rw [hl] at hk
    rw [hb, hg]
    exact h.len k hk
theorem blk_put_self (S : ChipM) (k : Nat) (b : BlkM) (hk : k < S.L.length) : (S.put k b).blk k = b := getD_set_self _ _ _ _ hk
theorem blk_put_other (S : ChipM) (k i : Nat) (b : BlkM) (hi : i ≠ k) : (S.put k b).blk i = S.blk i := getD_set_other _ _ _ _ _ hi
theorem put_length (S : ChipM) (k : Nat) (b : BlkM) : (S.put k b).L.length = S.L.length := List.length_set
theorem chipC_put (q : Nat) (S : ChipM) (k : Nat) (b : BlkM) : chipC q (S.put k b) = chipC q S := by unfold chipC; rw [put_length]; rfl
/-- a cell of a block's is turned, none of its pages -/
theorem NandAt.setBlk {w : World} {p q B : Nat} {G : Nat → Nat} {S : ChipM} (h : NandAt w p q B G S) (k : Nat) (hk : k < S.L.length) (j : Nat) (hj : j < 6) (v : Value) (b : BlkM) (hp : b.pages = (S.blk k).pages) (hc : blkC (G k) b = (blkC (G k) (S.blk k)).set j v) : NandAt (w.setCell ⟨q, k * 6 + j, none⟩ v) p q B G (S.put k b) := by
  have hpg : ∀ i, ((S.put k b).blk i).pages = (S.blk i).pages := fun i => by
    by_cases hi : i = k
    · subst hi; rw [blk_put_self S i b hk, hp]
    · rw [blk_put_other S k i b hi]
  refine ⟨?_, h.row.set k hk j hj v b hc hj, fun i hi => ?_, by rw [put_length]; exact h.inj, by rw [put_length]; exact h.base, fun i hi => ?_, by rw [put_length]; exact h.few⟩
  · rw [block_setCell_other h.qp, h.head, chipC_put]
  · rw [put_length] at hi
    rw [hpg]
    exact (h.page i hi).other (Ne.symm (h.gq i hi)) _ v
  · rw [put_length] at hi
    rw [hpg]
    exact h.len i hi
/-- a cell of a page's is turned -/
theorem NandAt.setPage {w : World} {p q B : Nat} {G : Nat → Nat} {S : ChipM} (h : NandAt w p q B G S) (k : Nat) (hk : k < S.L.length) (i : Nat) (hi : i < S.pgs) (j : Nat) (hj : j < 2) (v : Value) (x : Pg) (hc : pgC i x = (pgC i ((S.blk k).pages.getD i pg0)).set j v) :
    NandAt (w.setCell ⟨G k, i * 2 + j, none⟩ v) p q B G (S.put k { S.blk k with pages := (S.blk k).pages.set i x }) := by
  refine ⟨?_, ?_, fun i' hi' => ?_, by rw [put_length]; exact h.inj, by rw [put_length]; exact h.base, fun i' hi' => ?_, by rw [put_length]; exact h.few⟩
  · rw [block_setCell_other (h.gp k hk), h.head, chipC_put]
  · obtain ⟨cs, h1, h2, h3⟩ := (h.row.other (h.gq k hk) (i * 2 + j) v).ex
    refine ⟨cs, h1, by rw [put_length]; exact h2, fun k' hk' j' hj' => ?_⟩
    rw [put_length] at hk'
    rw [h3 k' hk' j' hj']
    show _ = (blkC (G k') ((S.put k { S.blk k with pages := (S.blk k).pages.set i x }).blk k'))[j']?
    by_cases hkk : k' = k
    · subst hkk
      rw [blk_put_self S k' _ hk']
      simp [blkC, ChipM.blk]
    · rw [blk_put_other S k k' _ hkk]; rfl
  · rw [put_length] at hi'
    by_cases hkk : i' = k
    · subst hkk
      rw [blk_put_self S i' _ hk]
      exact (h.page i' hk).set i (by rw [h.len i' hk]; exact hi) j hj v x hc hj
    · rw [blk_put_other S k i' _ hkk]
      exact (h.page i' hi').other (fun e => hkk (h.inj i' k hi' hk e.symm)) _ v
  · rw [put_length] at hi'
    by_cases hkk : i' = k
    · subst hkk
      rw [blk_put_self S i' _ hk]
      show ((S.blk i').pages.set i x).length = S.pgs
      rw [List.length_set, h.len i' hk]
    · rw [blk_put_other S k i' _ hkk]
      exact h.len i' hi'
/-- what is told ahead of the block's state -/
def askE (S : ChipM) (b i : Int) : Int := if S.off then 9 else if 0 ≤ b ∧ b < S.L.length ∧ 0 ≤ i ∧ i < S.pgs then 0 else 3
end Go.Proofs.YtjfmkfhjbdiojaaGreat

namespace Go.Proofs.YtjfmkfhjbdiojaaGreat
set_option linter.unusedSimpArgs false
set_option linter.unusedVariables false
open Go.RowKit Go.WideShapes Go.ChangeShapes Go.ChangeAt

theorem at_nil (i : Int) (w : World) : Calls Tryz.prog 43 #[.pointer none, .int .i64 i] w fun e w' => e = .returned (.pointer none) ∧ w = w' := by
  go_enter Tryz.func43, Tryz.ntmps43
  go_wp2
  go_ret
  exact ⟨rfl, rfl⟩
theorem at_no (p q B : Nat) (G : Nat → Nat) (S : ChipM) (i : Int) (hi : i < 0 ∨ (S.L.length : Int) ≤ i) (w : World) (h : NandAt w p q B G S) :
    Calls Tryz.prog 43 #[.pointer (some ⟨p, 0, none⟩), .int .i64 i] w fun e w' => e = .returned (.pointer none) ∧ w = w' := by
  have c5 : w.cell? ⟨p, 5, none⟩ = some (.slice (some ⟨q, 0, none⟩) S.L.length S.L.length) := h.cell 5
  by_cases h0 : i < 0
  · go_enter Tryz.func43, Tryz.ntmps43
    go_wp2
    go_ret
    exact ⟨rfl, rfl⟩
  · have h1 : (S.L.length : Int) ≤ i := by omega
    clear hi
    go_enter Tryz.func43, Tryz.ntmps43
    go_wp2
    go_ret
    exact ⟨rfl, rfl⟩
theorem at_yes (p q B : Nat) (G : Nat → Nat) (S : ChipM) (k : Nat) (hk : k < S.L.length) (w : World) (h : NandAt w p q B G S) :
    Calls Tryz.prog 43 #[.pointer (some ⟨p, 0, none⟩), .int .i64 (k : Int)] w fun e w' => e = .returned (.pointer (some ⟨q, k * 6, none⟩)) ∧ w = w' := by
  have c5 : w.cell? ⟨p, 5, none⟩ = some (.slice (some ⟨q, 0, none⟩) S.L.length S.L.length) := h.cell 5
  have h1 : ¬ (k : Int) < 0 := by omega
  have h2 : ¬ (S.L.length : Int) ≤ (k : Int) := by omega
  clear h
  go_enter Tryz.func43, Tryz.ntmps43
  go_wp2
  go_ret
  exact ⟨rfl, rfl⟩
theorem ask_nil (b i : Int) (w : World) : Calls Tryz.prog 69 #[.pointer none, .int .i64 b, .int .i64 i] w fun e w' => e = .returned (.int .i64 1) ∧ w = w' := by
  go_enter Tryz.func69, Tryz.ntmps69
  go_wp2
  go_ret
  exact ⟨rfl, rfl⟩
theorem ask_any (p q B : Nat) (G : Nat → Nat) (S : ChipM) (b i : Int) (w : World) (h : NandAt w p q B G S) :
    Calls Tryz.prog 69 #[.pointer (some ⟨p, 0, none⟩), .int .i64 b, .int .i64 i] w fun e w' => e = .returned (.int .i64 (askE S b i)) ∧ w = w' := by
  have c1 : w.cell? ⟨p, 1, none⟩ = some (.int .i64 (S.pgs : Int)) := h.cell 1
  have c11 : w.cell? ⟨p, 11, none⟩ = some (.bool S.off) := h.cell 11
  obtain ⟨ae, hae⟩ : ∃ ae, askE S b i = ae := ⟨_, rfl⟩
  rw [hae]
  unfold askE at hae
  have HE0 := hide hae
  clear hae
  cases ho : S.off with
  | true =>
    rw [ho] at c11
    have HE := hide (show (9 : Int) = ae by rw [← HE0.out, ho, if_pos rfl])
    clear h HE0
    go_enter Tryz.func69, Tryz.ntmps69
    go_wp2_with fail
    go_ret
    exact ⟨ret_int HE.out, rfl⟩
  | false =>
    rw [ho] at c11
    have HW := hide h
    clear h
    by_cases hb : 0 ≤ b ∧ b < S.L.length
    · obtain ⟨k, rfl⟩ : ∃ k : Nat, (k : Int) = b := ⟨b.toNat, by omega⟩
      have HA := hide (at_yes p q B G S k (by omega) w HW.out)
      by_cases hi : 0 ≤ i ∧ i < S.pgs
      · have HE := hide (show (0 : Int) = ae by rw [← HE0.out, ho, if_neg (by decide), if_pos ⟨hb.1, hb.2, hi.1, hi.2⟩])
        have g1 : ¬ i < 0 := by omega
        have g2 : ¬ (S.pgs : Int) ≤ i := by omega
        clear hb hi
        go_enter Tryz.func69, Tryz.ntmps69
        go_wp2_with fail
        refine HA.out.mono ?_
        rintro e w' ⟨rfl, rfl⟩
        go_wp2_with fail
        go_ret
        exact ⟨ret_int HE.out, rfl⟩
      · have HE := hide (show (3 : Int) = ae by rw [← HE0.out, ho, if_neg (by decide), if_neg (fun h => hi h.2.2)])
        by_cases g1 : i < 0
        · clear hb hi
          go_enter Tryz.func69, Tryz.ntmps69
          go_wp2_with fail
          refine HA.out.mono ?_
          rintro e w' ⟨rfl, rfl⟩
          go_wp2_with fail
          go_ret
          exact ⟨ret_int HE.out, rfl⟩
        · have g2 : (S.pgs : Int) ≤ i := by omega
          clear hb hi
          go_enter Tryz.func69, Tryz.ntmps69
          go_wp2_with fail
          refine HA.out.mono ?_
          rintro e w' ⟨rfl, rfl⟩
          go_wp2_with fail
          go_ret
          exact ⟨ret_int HE.out, rfl⟩
    · have HA := hide (at_no p q B G S b (by omega) w HW.out)
      have HE := hide (show (3 : Int) = ae by rw [← HE0.out, ho, if_neg (by decide), if_neg (fun h => hb ⟨h.1, h.2.1⟩)])
      clear hb
      go_enter Tryz.func69, Tryz.ntmps69
      go_wp2_with fail
      refine HA.out.mono ?_
      rintro e w' ⟨rfl, rfl⟩
      go_wp2_with fail
      go_ret
      exact ⟨ret_int HE.out, rfl⟩
theorem askE_in {S : ChipM} {b i : Int} (h : askE S b i = 0) : S.off = false ∧ 0 ≤ b ∧ b < S.L.length ∧ 0 ≤ i ∧ i < S.pgs := by
  unfold askE at h
  cases ho : S.off with
  | true => rw [ho, if_pos rfl] at h; omega
  | false =>
    rw [ho, if_neg (by decide)] at h
    split at h
    · exact ⟨rfl, by assumption⟩
    · omega
theorem askE_yes {S : ChipM} {k i : Nat} (ho : S.off = false) (hk : k < S.L.length) (hi : i < S.pgs) : askE S (k : Int) (i : Int) = 0 := by
  unfold askE
  rw [ho, if_neg (by decide), if_pos ⟨by omega, by omega, by omega, by omega⟩]
/-- Read's answer -/
def readP (S : ChipM) (b i : Int) : Pg := if askE S b i = 0 then (S.blk b.toNat).pages.getD i.toNat pg0 else pg0
theorem ret_ssi {a a' b b' : ByteArray} {c c' : Int} (h1 : a' = a) (h2 : b' = b) (h3 : c' = c) : Ending.returned (.tuple #[.string a, .string b, .int .i64 c]) = .returned (.tuple #[.string a', .string b', .int .i64 c']) := by rw [h1, h2, h3]
theorem read_nil (b i : Int) (w : World) : Calls Tryz.prog 33 #[.pointer none, .int .i64 b, .int .i64 i] w fun e w' => e = .returned (.tuple #[.string ⟨#[]⟩, .string ⟨#[]⟩, .int .i64 1]) ∧ w = w' := by
  have HA := hide (ask_nil b i w)
  go_enter Tryz.func33, Tryz.ntmps33
  go_wp2_with fail
  refine HA.out.mono ?_
  rintro e w' ⟨rfl, rfl⟩
  go_wp2_with fail
  go_ret3
  exact ⟨rfl, rfl⟩
set_option maxHeartbeats 400000 in
theorem nread_any (p q B : Nat) (G : Nat → Nat) (S : ChipM) (b i : Int) (w : World) (h : NandAt w p q B G S) :
    Calls Tryz.prog 33 #[.pointer (some ⟨p, 0, none⟩), .int .i64 b, .int .i64 i] w fun e w' => e = .returned (.tuple #[.string (readP S b i).1, .string (readP S b i).2, .int .i64 (askE S b i)]) ∧ Below w.heap.size w w' := by
  have HA := hide (ask_any p q B G S b i w h)
  by_cases ha : askE S b i = 0
  · obtain ⟨ho, hb0, hb1, hi0, hi1⟩ := askE_in ha
    have HP := hide (show (S.blk b.toNat).pages.getD i.toNat pg0 = readP S b i by unfold readP; rw [if_pos ha])
    obtain ⟨k, rfl⟩ : ∃ k : Nat, (k : Int) = b := ⟨b.toNat, by omega⟩
    obtain ⟨j, rfl⟩ : ∃ j : Nat, (j : Int) = i := ⟨i.toNat, by omega⟩
    rw [Int.toNat_natCast, Int.toNat_natCast] at HP
    have hk : k < S.L.length := by omega
    have hj : j < S.pgs := by omega
    have c5 : w.cell? ⟨p, 5, none⟩ = some (.slice (some ⟨q, 0, none⟩) S.L.length S.L.length) := h.cell 5
    have d0 : w.cell? ⟨q, k * 6, none⟩ = some (.slice (some ⟨G k, 0, none⟩) S.pgs S.pgs) := by
      have := h.slot k hk 0 (by decide)
      rw [Nat.add_zero] at this
      rw [this, ← h.len k hk]; rfl
    have e0 := h.leaf k hk j hj 0 (by decide)
    have e1 := h.leaf k hk j hj 1 (by decide)
    generalize (S.blk k).pages.getD j pg0 = x at *
    obtain ⟨x1, x2⟩ := x
    simp only [pgC, List.getElem?_cons_zero, List.getElem?_cons_succ, Nat.add_zero] at e0 e1
    rw [ha] at HA ⊢
    have HP1 := hide (congrArg Prod.fst HP.out)
    have HP2 := hide (congrArg Prod.snd HP.out)
    dsimp only at HP1 HP2
    clear HP ha h ho
    go_enter Tryz.func33, Tryz.ntmps33
    go_wp2_with fail
    refine HA.out.mono ?_
    rintro e w' ⟨rfl, rfl⟩
    go_wp2_with fail
    go_quiet (fail)
    go_wp2_with fail
    go_ret3
    exact ⟨ret_ssi HP1.out.symm HP2.out.symm rfl, below_drewN ((Below.refl _ _).alloc (Nat.le_refl _) _) _⟩
  · have HP := hide (show pg0 = readP S b i by unfold readP; rw [if_neg ha])
    have HP1 := hide (congrArg Prod.fst HP.out)
    have HP2 := hide (congrArg Prod.snd HP.out)
    dsimp only [pg0] at HP1 HP2
    clear HP h
    generalize askE S b i = ae at *
    go_enter Tryz.func33, Tryz.ntmps33
    go_wp2_with fail
    refine HA.out.mono ?_
    rintro e w' ⟨rfl, rfl⟩
    go_wp2_with fail
    go_ret3
    exact ⟨ret_ssi HP1.out.symm HP2.out.symm rfl, Below.refl _ _⟩
end Go.Proofs.YtjfmkfhjbdiojaaGreat

namespace Go.Proofs.YtjfmkfhjbdiojaaGreat
set_option linter.unusedSimpArgs false
set_option linter.unusedVariables false
open Go.RowKit Go.WideShapes Go.ChangeShapes Go.ChangeAt

/-- from block B on, and of a chip's own kinds alone -/
def Turn (B : Nat) (w w' : World) : Prop := Below B w w' ∧ KeepsT [111, 122, 107] w w'
theorem Turn.refl (B : Nat) (w : World) : Turn B w w := ⟨Below.refl _ _, KeepsT.refl _ _⟩
theorem Turn.trans {B : Nat} {a b c : World} (h : Turn B a b) (k : Turn B b c) : Turn B a c := ⟨h.1.trans k.1, h.2.trans k.2⟩
theorem Turn.of_below {B : Nat} {w w' : World} (h : Below w.heap.size w w') (hB : B ≤ w.heap.size) : Turn B w w' := ⟨h.mono hB, KeepsT.of_below h⟩
theorem Turn.drewN {B : Nat} {a b : World} (h : Turn B a b) (n : Nat) : Turn B a (b.drewN n) := ⟨below_drewN h.1 n, h.2.drewN n⟩
theorem Turn.drew {B : Nat} {a b : World} (h : Turn B a b) : Turn B a b.drew := ⟨h.1.drew, h.2⟩
theorem NandAt.size {w : World} {p q B : Nat} {G : Nat → Nat} {S : ChipM} (h : NandAt w p q B G S) : B ≤ w.heap.size := Nat.le_trans h.base.1 (Nat.le_of_lt h.lt)
theorem NandAt.turnHead {w : World} {p q B : Nat} {G : Nat → Nat} {S : ChipM} (h : NandAt w p q B G S) (j : Nat) (v : Value) : Turn B w (w.setCell ⟨p, j, none⟩ v) :=
  ⟨(Below.refl B w).setCell h.base.1 v, KeepsT.setCell h.head (by simp) j v⟩
theorem NandAt.turnBlk {w : World} {p q B : Nat} {G : Nat → Nat} {S : ChipM} (h : NandAt w p q B G S) (j : Nat) (v : Value) : Turn B w (w.setCell ⟨q, j, none⟩ v) := by
  obtain ⟨cs, h1, -⟩ := h.row.ex
  exact ⟨(Below.refl B w).setCell h.base.2.1 v, KeepsT.setCell h1 (by simp) j v⟩
theorem NandAt.turnPage {w : World} {p q B : Nat} {G : Nat → Nat} {S : ChipM} (h : NandAt w p q B G S) (k : Nat) (hk : k < S.L.length) (j : Nat) (v : Value) : Turn B w (w.setCell ⟨G k, j, none⟩ v) := by
  obtain ⟨cs, h1, -⟩ := (h.page k hk).ex
  exact ⟨(Below.refl B w).setCell (h.base.2.2 k hk) v, KeepsT.setCell h1 (by simp) j v⟩
/-- a call's turn of a chip -/
def NandIs (p q B : Nat) (G : Nat → Nat) (S' : ChipM) (v : Value) (w : World) (e : Ending) (w' : World) : Prop := e = .returned v ∧ NandAt w' p q B G S' ∧ Turn B w w'

def nextZ (S : ChipM) (b : Int) : Int := if 0 ≤ b ∧ b < S.L.length then (S.blk b.toNat).next else 0
def erasesZ (S : ChipM) (b : Int) : Int := if 0 ≤ b ∧ b < S.L.length then (S.blk b.toNat).erased else 0
theorem off_nil (w : World) : Calls Tryz.prog 97 #[.pointer none] w fun e w' => e = .returned (.bool false) ∧ w = w' := by
  go_enter Tryz.func97, Tryz.ntmps97
  go_wp2_with fail
  go_ret
  exact ⟨rfl, rfl⟩
theorem off_any (p q B : Nat) (G : Nat → Nat) (S : ChipM) (w : World) (h : NandAt w p q B G S) :
    Calls Tryz.prog 97 #[.pointer (some ⟨p, 0, none⟩)] w fun e w' => e = .returned (.bool S.off) ∧ w = w' := by
  have c11 : w.cell? ⟨p, 11, none⟩ = some (.bool S.off) := h.cell 11
  clear h
  go_enter Tryz.func97, Tryz.ntmps97
  go_wp2_with fail
  go_ret
  exact ⟨rfl, rfl⟩
theorem sins_nil (w : World) : Calls Tryz.prog 14 #[.pointer none] w fun e w' => e = .returned (.int .i64 0) ∧ w = w' := by
  go_enter Tryz.func14, Tryz.ntmps14
  go_wp2_with fail
  go_ret
  exact ⟨rfl, rfl⟩
theorem sins_any (p q B : Nat) (G : Nat → Nat) (S : ChipM) (w : World) (h : NandAt w p q B G S) :
    Calls Tryz.prog 14 #[.pointer (some ⟨p, 0, none⟩)] w fun e w' => e = .returned (.int .i64 S.sins) ∧ w = w' := by
  have c8 : w.cell? ⟨p, 8, none⟩ = some (.int .i64 S.sins) := h.cell 8
  clear h
  go_enter Tryz.func14, Tryz.ntmps14
  go_wp2_with fail
  go_ret
  exact ⟨rfl, rfl⟩
theorem count_nil (w : World) : Calls Tryz.prog 18 #[.pointer none] w fun e w' => e = .returned (.tuple #[.int .i64 0, .int .i64 0]) ∧ w = w' := by
  go_enter Tryz.func18, Tryz.ntmps18
  go_wp2_with fail
  go_ret2
  exact ⟨rfl, rfl⟩
theorem count_any (p q B : Nat) (G : Nat → Nat) (S : ChipM) (w : World) (h : NandAt w p q B G S) :
    Calls Tryz.prog 18 #[.pointer (some ⟨p, 0, none⟩)] w fun e w' => e = .returned (.tuple #[.int .i64 S.progs, .int .i64 S.eras]) ∧ Below w.heap.size w w' := by
  have c6 : w.cell? ⟨p, 6, none⟩ = some (.int .i64 S.progs) := h.cell 6
  have c7 : w.cell? ⟨p, 7, none⟩ = some (.int .i64 S.eras) := h.cell 7
  clear h
  go_enter Tryz.func18, Tryz.ntmps18
  go_wp2_with fail
  go_quiet (fail)
  go_wp2_with fail
  go_ret2
  exact ⟨rfl, below_drewN (Below.refl _ _) _⟩
def wreckS (S : ChipM) (b : Int) : ChipM := if 0 ≤ b ∧ b < S.L.length then S.put b.toNat { S.blk b.toNat with weak := true } else S
end Go.Proofs.YtjfmkfhjbdiojaaGreat
