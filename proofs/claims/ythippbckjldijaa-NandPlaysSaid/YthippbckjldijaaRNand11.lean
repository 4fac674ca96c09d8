/-
  Layer 5, the law NandPlays: both chips at once; the shape of few pages.
-/
import Derived.Test.YthippbckjldijaaRNand10
import Derived.Test.YthippbckjldijaaNand16
import Derived.Test.YthippbckjldijaaNand20
--import Derived.Test.Zdbg
namespace Go.Proofs.Ythippbckjldijaa
set_option linter.unusedSimpArgs false
set_option linter.unusedVariables false
open Go.RowKit Go.WideShapes Go.ChangeShapes Go.ChangeAt Go.Deep

theorem NumsAt.low5 {w w' : World} {k : IntKind} {v : Value} {zs : List Int} (h : NumsAt w k v zs) (hb : Below w.heap.size w w') : NumsAt w' k v zs := by
  rcases h with h | ⟨b, off, cap, rfl, hc, hm, hp, hi⟩ | h
  · exact .inl h
  · exact .inr (.inl ⟨b, off, cap, rfl, hc, hm, hp, fun i hil => cell_keep (hi i hil) (World.block_lt_of_cell? w _ (hi i hil)) hb⟩)
  · exact .inr (.inr h)
theorem nums_take5 {w : World} {k : IntKind} {a : Option Addr} {cap : Nat} {zs : List Int} (h : NumsAt w k (.slice a zs.length cap) zs) (j : Nat) (hj : j ≤ zs.length) : NumsAt w k (.slice a (zs.take j).length cap) (zs.take j) := by
  have hl : (zs.take j).length = j := by rw [List.length_take]; omega
  rcases h with ⟨e, rfl⟩ | ⟨b, off, cap', e, hc, hm, hp, hi⟩ | ⟨a', cap', e, rfl⟩
  · simp at hj; subst hj; exact .inl ⟨by simpa using e, rfl⟩
  · simp only [Value.slice.injEq] at e
    obtain ⟨rfl, -, rfl⟩ := e
    by_cases h0 : j = 0
    · subst h0; exact .inr (.inr ⟨_, _, rfl, rfl⟩)
    · refine .inr (.inl ⟨b, off, cap, rfl, by omega, hm, by omega, fun i hi' => ?_⟩)
      rw [hl] at hi'
      rw [hi i (by omega)]
      simp [List.getD, List.getElem?_take, hi']
  · simp at hj; subst hj; exact .inr (.inr ⟨_, _, e, rfl⟩)
theorem nums_form {w : World} {k : IntKind} {v : Value} {zs : List Int} (h : NumsAt w k v zs) : ∃ a cap, v = .slice a zs.length cap ∧ zs.length ≤ cap := by
  rcases h with ⟨rfl, rfl⟩ | ⟨b, off, cap, rfl, hc, hm, -, -⟩ | ⟨a, cap, rfl, rfl⟩
  · exact ⟨none, 0, rfl, Nat.le_refl _⟩
  · exact ⟨_, cap, rfl, hc⟩
  · exact ⟨_, cap, rfl, Nat.zero_le _⟩
/-- both chips -/
structure Duo (w W : World) (P Q B : Nat) (G : Nat → Nat) (c pq n e a f m cp : Nat) (G' : Nat → Nat) (B' : Nat) (S S' : ChipM) : Prop where
  nand : NandAt W P Q B G S
  ref : RefAt W c pq n e a f m cp G' B' S'
  low : Below w.heap.size w W
  b1 : w.heap.size ≤ B
  b2 : w.heap.size ≤ B'
section
variable {w W W' : World} {P Q B c pq n e a f m cp B' : Nat} {G G' : Nat → Nat} {S S' S2 : ChipM}
theorem Duo.below (h : Duo w W P Q B G c pq n e a f m cp G' B' S S') (hb : Below W.heap.size W W') : Duo w W' P Q B G c pq n e a f m cp G' B' S S' :=
  ⟨h.nand.below hb, h.ref.below hb, h.low.trans (hb.mono h.low.size), h.b1, h.b2⟩
theorem Duo.drew (h : Duo w W P Q B G c pq n e a f m cp G' B' S S') : Duo w W.drew P Q B G c pq n e a f m cp G' B' S S' := ⟨h.nand.drew, h.ref.drew, h.low.drew, h.b1, h.b2⟩
theorem Duo.nandT (h : Duo w W P Q B G c pq n e a f m cp G' B' S S') (hn : NandAt W' P Q B G S2) (ht : Turn B W W') : Duo w W' P Q B G c pq n e a f m cp G' B' S2 S' :=
  ⟨hn, h.ref.turn ht, h.low.trans (ht.1.mono h.b1), h.b1, h.b2⟩
theorem Duo.refT (h : Duo w W P Q B G c pq n e a f m cp G' B' S S') (hr : RefAt W' c pq n e a f m cp G' B' S2) (ht : RTurn B' W W') : Duo w W' P Q B G c pq n e a f m cp G' B' S S2 :=
  ⟨h.nand.rturn ht, hr, h.low.trans (ht.1.mono h.b2), h.b1, h.b2⟩
end
/-- what lies beside: the shape, the act -/
def Side5 (W : World) (sb : Nat) (b p s : Nat) : Prop := W.heap[sb]? = some (.cells #[.int .i64 (b : Int), .int .i64 (p : Int), .int .i64 (s : Int)] 26 (0, 0))
def Acts5 (W : World) (xq : Nat) (x : ActM) : Prop := W.heap[xq]? = some (.cells #[.int .i64 x.d, .int .i64 x.b, .int .i64 x.p, .string x.x, .string x.y] 38 (0, 0))
section
variable {W W' : World} {sb b p s xq B : Nat} {x : ActM}
theorem Side5.below (h : Side5 W sb b p s) (hb : Below W.heap.size W W') : Side5 W' sb b p s := (hb.block _ (heap_lt h)).trans h
theorem Side5.turn (h : Side5 W sb b p s) (ht : Turn B W W') : Side5 W' sb b p s := ht.2.cells h (by simp)
theorem Side5.rturn (h : Side5 W sb b p s) (ht : RTurn B W W') : Side5 W' sb b p s := ht.2.cells h (by simp)
theorem Acts5.below (h : Acts5 W xq x) (hb : Below W.heap.size W W') : Acts5 W' xq x := (hb.block _ (heap_lt h)).trans h
theorem Acts5.turn (h : Acts5 W xq x) (ht : Turn B W W') : Acts5 W' xq x := ht.2.cells h (by simp)
theorem Acts5.rturn (h : Acts5 W xq x) (ht : RTurn B W W') : Acts5 W' xq x := ht.2.cells h (by simp)
end
theorem RefAt.setFuse {w : World} {c pq n e a f m cp B : Nat} {G : Nat → Nat} {S : ChipM} (h : RefAt w c pq n e a f m cp G B S) (x : Int) (t : ByteArray) :
    RefAt ((w.setCell ⟨c, 9, none⟩ (.int .i64 x)).setCell ⟨c, 10, none⟩ (.string t)) c pq n e a f m cp G B { S with fuse := x, torn := t } := by
  have h1 := h.setHead 9 (.int .i64 x) { S with fuse := x } rfl rfl rfl
  exact h1.setHead 10 (.string t) { S with fuse := x, torn := t } rfl rfl rfl
set_option maxRecDepth 100000 in
set_option maxHeartbeats 1000000 in
theorem small_any (x y z : Int) (w : World) :
    Calls Try.prog 7 #[.agg #[.int .i64 x, .int .i64 y, .int .i64 z]] w fun e w' => ∃ b p s : Nat, e = .returned (.agg #[.int .i64 (b : Int), .int .i64 (p : Int), .int .i64 (s : Int)]) ∧ (4 ≤ b ∧ b ≤ 6 ∧ 2 ≤ p ∧ p ≤ 5 ∧ 32 ≤ s ∧ s ≤ 40) ∧ Below w.heap.size w w' := by
  obtain ⟨b, hb0, hb1⟩ : ∃ b : Nat, b < 3 ∧ max 0 x % 3 = (b : Int) := ⟨(max 0 x % 3).toNat, by omega, by omega⟩
  obtain ⟨p, hp0, hp1⟩ : ∃ b : Nat, b < 4 ∧ max 0 y % 4 = (b : Int) := ⟨(max 0 y % 4).toNat, by omega, by omega⟩
  obtain ⟨s, hs0, hs1⟩ : ∃ b : Nat, b < 9 ∧ max 0 z % 9 = (b : Int) := ⟨(max 0 z % 9).toNat, by omega, by omega⟩
  have hbF : (if x > 0 then x else 0) % 3 = (b : Int) := by split <;> omega
  have hpF : (if y > 0 then y else 0) % 4 = (p : Int) := by split <;> omega
  have hsF : (if z > 0 then z else 0) % 9 = (s : Int) := by split <;> omega
  go_enter Try.func7, Try.ntmps7
  go_wp2_with fail
  obtain ⟨oa, hoa⟩ : ∃ oa, oa = Obj.cells #[.int .i64 x, .int .i64 y, .int .i64 z] 22 := ⟨_, rfl⟩
  rw [← hoa]
  have hb1 := (Below.refl w.heap.size w).alloc (Nat.le_refl _) oa
  have hsz : (w.alloc oa).heap.size = w.heap.size + 1 := by simp
  generalize w.alloc oa = w1 at *
  refine bodyPost_ret (v := .agg #[.int .i64 (4 + (b : Int)), .int .i64 (2 + (p : Int)), .int .i64 (32 + (s : Int))]) ?_ rfl ⟨4 + b, 2 + p, 32 + s, rfl, by omega, hb1.alloc (by omega) _⟩
  rw [← hsz]
  have z0 := heap_new w1 (.cells #[.int .i64 (4 + (b : Int)), .int .i64 (2 + (p : Int)), .int .i64 (32 + (s : Int))] 26)
  have z1 := cell_of_block z0 0
  have z2 := cell_of_block z0 1
  have z3 := cell_of_block z0 2
  simp [results, Try.results7, go_sem, z1, z2, z3]
end Go.Proofs.Ythippbckjldijaa
