/-
  Layer 5, the program's calls: New of a shape that may be.
-/
import Derived.Test.YthippbckjldijaaNand14
namespace Go.Proofs.Ythippbckjldijaa
set_option linter.unusedSimpArgs false
set_option linter.unusedVariables false
open Go.RowKit Go.WideShapes Go.ChangeShapes Go.ChangeAt Go.Deep

def ffB : ByteArray := ⟨#[255]⟩
/-- a block as make leaves it -/
def rawC : List Value := [.slice none 0 0, .int .i64 0, .int .i64 0, .bool false, .bool false, .bool false]
/-- a chip as it is made, ahead of the blocks that are bad -/
def newS (b p s : Nat) : ChipM := ⟨p, s, filledP s ffB, List.replicate b ⟨List.replicate p (filledP s ffB), 0, 0, false, false, false⟩, 0, 0, 0, 0, ⟨#[]⟩, false⟩
theorem newS_len (b p s : Nat) : (newS b p s).L.length = b := List.length_replicate
theorem newS_blk (b p s k : Nat) (hk : k < b) : (newS b p s).blk k = ⟨List.replicate p (filledP s ffB), 0, 0, false, false, false⟩ := by
  unfold ChipM.blk newS; simp [List.getD, hk]
/-- a block is bad from the factory -/
def millB (S : ChipM) (b : BlkM) : BlkM := { b with mill := true, pages := b.pages.set 0 ((b.pages.getD 0 pg0).1, zeroB ++ S.blank.2.extract 1 S.blank.2.size) }
def millS (S : ChipM) (k : Nat) : ChipM := S.put k (millB S (S.blk k))
def badOne (S : ChipM) (i : Int) : ChipM := if 0 ≤ i ∧ i < S.L.length then millS S i.toNat else S
def badS (S : ChipM) (L : List Int) : ChipM := L.foldl badOne S
theorem badOne_len (S : ChipM) (i : Int) : (badOne S i).L.length = S.L.length := by unfold badOne; split <;> simp [millS, put_length]
theorem badOne_pgs (S : ChipM) (i : Int) : (badOne S i).pgs = S.pgs := by unfold badOne; split <;> rfl
theorem badOne_blank (S : ChipM) (i : Int) : (badOne S i).blank = S.blank := by unfold badOne; split <;> rfl
theorem badS_len (S : ChipM) (L : List Int) : (badS S L).L.length = S.L.length := by
  induction L generalizing S with
  | nil => rfl
  | cons i L ih => exact (ih (badOne S i)).trans (badOne_len S i)
theorem badS_pgs (S : ChipM) (L : List Int) : (badS S L).pgs = S.pgs := by
  induction L generalizing S with
  | nil => rfl
  | cons i L ih => exact (ih (badOne S i)).trans (badOne_pgs S i)
theorem badS_blank (S : ChipM) (L : List Int) : (badS S L).blank = S.blank := by
  induction L generalizing S with
  | nil => rfl
  | cons i L ih => exact (ih (badOne S i)).trans (badOne_blank S i)
theorem badS_snoc (S : ChipM) (L : List Int) (j : Nat) (hj : j < L.length) : badS S (L.take (j + 1)) = badOne (badS S (L.take j)) (L.getD j 0) := by
  have h1 : L.take (j + 1) = L.take j ++ [L.getD j 0] := by
    rw [List.take_add_one]; simp [List.getD, hj]
  rw [h1]
  exact List.foldl_append
theorem filled_size (s : Nat) (t : ByteArray) (h : 1 ≤ t.size) : (filledP s t).1.size = s ∧ (filledP s t).2.size = 32 := by
  have h1 := againB_size s t h
  constructor
  · show ((againB s t).extract 0 s).size = s
    rw [ByteArray.size_extract]; omega
  · show ((againB s t).extract s (s + 32)).size = 32
    rw [ByteArray.size_extract]; omega
theorem cell_lt {w : World} {b o : Nat} {v : Value} (h : w.cell? ⟨b, o, none⟩ = some v) : b < w.heap.size := by
  by_cases hb : b < w.heap.size
  · exact hb
  · rw [World.cell?] at h
    simp [Array.getElem?_eq_none (Nat.le_of_not_lt hb)] at h
/-- numbers that came in, place by place -/
theorem nums_in {w : World} {v : Value} {L : List Int} (h : NumsAt w .i64 v L) : ∃ (a : Option Addr) (cap : Nat), v = .slice a L.length cap ∧ ∀ i, i < L.length → ∃ b off, a = some ⟨b, off, none⟩ ∧ b < w.heap.size ∧ w.cell? ⟨b, off + i, none⟩ = some (.int .i64 (L.getD i 0)) := by
  rcases h with ⟨rfl, rfl⟩ | ⟨b, off, cap, rfl, -, -, -, h⟩ | ⟨a, cap, rfl, rfl⟩
  · exact ⟨none, 0, rfl, fun i hi => absurd hi (Nat.not_lt_zero i)⟩
  · exact ⟨_, cap, rfl, fun i hi => ⟨b, off, rfl, cell_lt (h i hi), h i hi⟩⟩
  · exact ⟨_, cap, rfl, fun i hi => absurd hi (Nat.not_lt_zero i)⟩
/-- a chip that is being made: the first m blocks have their pages -/
structure ChipW (w : World) (p q B m : Nat) (G : Nat → Nat) (S : ChipM) : Prop where
  head : w.heap[p]? = some (.cells (chipC q S).toArray 74 (0, 0))
  row : RwAt w q 78 6 (fun k b => if k < m then blkC (G k) b else rawC) blk0 S.L
  page : ∀ k, k < m → RwAt w (G k) 70 2 pgC pg0 (S.blk k).pages
  inj : ∀ i j, i < m → j < m → G i = G j → i = j
  base : B ≤ p ∧ B ≤ q ∧ ∀ k, k < m → B ≤ G k
theorem ChipW.below {w w' : World} {p q B m : Nat} {G : Nat → Nat} {S : ChipM} (h : ChipW w p q B m G S) (hb : Below w.heap.size w w') : ChipW w' p q B m G S :=
  ⟨(hb.block _ (heap_lt h.head)).trans h.head, h.row.below hb, fun k hk => (h.page k hk).below hb, h.inj, h.base⟩
theorem ChipW.drewN {w : World} {p q B m : Nat} {G : Nat → Nat} {S : ChipM} (h : ChipW w p q B m G S) (n : Nat) : ChipW (w.drewN n) p q B m G S :=
  ⟨h.head, h.row.kept rfl, fun k hk => (h.page k hk).kept rfl, h.inj, h.base⟩
theorem ChipW.cell {w : World} {p q B m : Nat} {G : Nat → Nat} {S : ChipM} (h : ChipW w p q B m G S) (j : Nat) : w.cell? ⟨p, j, none⟩ = (chipC q S)[j]? := by
  rw [cell_of_block h.head]; simp
theorem ChipW.raw {w : World} {p q B m : Nat} {G : Nat → Nat} {S : ChipM} (h : ChipW w p q B m G S) (hm : m < S.L.length) (j : Nat) (hj : j < 6) : w.cell? ⟨q, m * 6 + j, none⟩ = rawC[j]? := by
  have h1 := h.row.at m hm j hj
  rw [if_neg (by omega)] at h1
  exact h1
theorem ChipW.qp {w : World} {p q B m : Nat} {G : Nat → Nat} {S : ChipM} (h : ChipW w p q B m G S) : q ≠ p := rows_apart_head h.row h.head (by decide)
theorem ChipW.qs {w : World} {p q B m sb : Nat} {G : Nat → Nat} {S : ChipM} {c : Array Value} (h : ChipW w p q B m G S) (hX : w.heap[sb]? = some (.cells c 26 (0, 0))) : q ≠ sb := rows_apart_head h.row hX (by decide)
/-- the next block has its pages -/
theorem ChipW.step {w : World} {p q B m g : Nat} {G : Nat → Nat} {S : ChipM} (h : ChipW w p q B m G S) (hm : m < S.L.length) (hb : S.blk m = ⟨(S.blk m).pages, 0, 0, false, false, false⟩) (hg : RwAt w g 70 2 pgC pg0 (S.blk m).pages) (hB : B ≤ g) (hu : ∀ k, k < m → G k ≠ g) :
    ChipW (w.setCell ⟨q, m * 6, none⟩ (.slice (some ⟨g, 0, none⟩) (S.blk m).pages.length (S.blk m).pages.length)) p q B (m + 1) (fun k => if k = m then g else G k) S := by
  have hgq : g ≠ q := rows_apart hg h.row (by decide)
  refine ⟨?_, ?_, fun k hk => ?_, fun i j hi hj hij => ?_, h.base.1, h.base.2.1, fun k hk => ?_⟩
  · rw [block_setCell_other h.qp, h.head]
  · obtain ⟨cs, h1, h2, h3⟩ := h.row.ex
    refine ⟨_, block_setCell h1 _ _, by simp [h2], fun k hk j hj => ?_⟩
    by_cases hkm : k = m
    · subst hkm
      have h4 := h3 k hk j hj
      rw [if_neg (by omega)] at h4
      rw [if_pos (by omega), if_pos rfl]
      show _ = (blkC g (S.blk k))[j]?
      have hin : k * 6 < cs.size := by
        rw [h2]
        have : (k + 1) * 6 ≤ S.L.length * 6 := Nat.mul_le_mul_right 6 hk
        omega
      by_cases hj0 : j = 0
      · subst hj0
        rw [Nat.add_zero, Array.getElem?_setIfInBounds, if_pos rfl, if_pos hin]
        rfl
      · rw [Array.getElem?_setIfInBounds, if_neg (by omega), h4, hb]
        have hj6 : j = 1 ∨ j = 2 ∨ j = 3 ∨ j = 4 ∨ j = 5 := by omega
        rcases hj6 with rfl | rfl | rfl | rfl | rfl <;> rfl
    · have h4 := h3 k hk j hj
      rw [Array.getElem?_setIfInBounds, if_neg (by omega), h4, if_neg hkm]
      by_cases hkl : k < m
      · rw [if_pos hkl, if_pos (by omega)]
      · rw [if_neg hkl, if_neg (by omega)]
  · by_cases hkm : k = m
    · subst hkm
      rw [if_pos rfl]
      exact hg.other (Ne.symm hgq) _ _
    · rw [if_neg hkm]
      exact (h.page k (by omega)).other (Ne.symm (rows_apart (h.page k (by omega)) h.row (by decide))) _ _
  · by_cases h1 : i = m <;> by_cases h2 : j = m
    · omega
    · rw [if_pos h1, if_neg h2] at hij
      exact absurd hij.symm (hu j (by omega))
    · rw [if_neg h1, if_pos h2] at hij
      exact absurd hij (hu i (by omega))
    · rw [if_neg h1, if_neg h2] at hij
      exact h.inj i j (by omega) (by omega) hij
  · by_cases hkm : k = m
    · rw [if_pos hkm]; exact hB
    · rw [if_neg hkm]; exact h.base.2.2 k (by omega)
theorem ChipW.done {w : World} {p q B : Nat} {G : Nat → Nat} {S : ChipM} (h : ChipW w p q B S.L.length G S) (hl : ∀ k, k < S.L.length → (S.blk k).pages.length = S.pgs) (hf : S.L.length ≤ 256 ∧ S.pgs ≤ 64) : NandAt w p q B G S := by
  refine ⟨h.head, ?_, h.page, h.inj, h.base, hl, hf⟩
  obtain ⟨cs, h1, h2, h3⟩ := h.row.ex
  refine ⟨cs, h1, h2, fun k hk j hj => ?_⟩
  have h4 := h3 k hk j hj
  rw [if_pos hk] at h4
  exact h4
theorem ChipW.first {w : World} {p q B : Nat} (b k s : Nat) (hp : w.heap[p]? = some (.cells (chipC q (newS b k s)).toArray 74 (0, 0))) (hq : w.heap[q]? = some (.cells ((List.replicate b ()).flatMap fun _ => rawC).toArray 78 (0, 0))) (hB : B ≤ p ∧ B ≤ q) : ChipW w p q B 0 (fun _ => 0) (newS b k s) := by
  refine ⟨hp, ⟨_, hq, ?_, fun i hi j hj => ?_⟩, fun k hk => by omega, fun i j hi => by omega, hB.1, hB.2, fun k hk => by omega⟩
  · rw [List.size_toArray, flat_length (fun _ : Unit => rawC) 6 (fun _ => rfl), List.length_replicate, newS_len]
  · rw [if_neg (by omega), List.getElem?_toArray, flat_at (fun _ : Unit => rawC) 6 (fun _ => rfl) () _ i j (by rw [List.length_replicate, ← newS_len b k s]; exact hi) hj]

theorem new3 {w : World} {P Q B m b p s : Nat} {G : Nat → Nat} (h : ChipW w P Q B m G (newS b p s)) : w.cell? ⟨P, 3, none⟩ = some (.string (filledP s ffB).1) := h.cell 3
theorem new4 {w : World} {P Q B m b p s : Nat} {G : Nat → Nat} (h : ChipW w P Q B m G (newS b p s)) : w.cell? ⟨P, 4, none⟩ = some (.string (filledP s ffB).2) := h.cell 4
theorem new5 {w : World} {P Q B m b p s : Nat} {G : Nat → Nat} (h : ChipW w P Q B m G (newS b p s)) : w.cell? ⟨P, 5, none⟩ = some (.slice (some ⟨Q, 0, none⟩) b b) := by
  have h1 := h.cell 5
  unfold chipC at h1
  rw [newS_len] at h1
  exact h1
set_option maxRecDepth 100000 in
set_option maxHeartbeats 2000000 in
theorem new_go (b p s : Nat) (hR : rightS b p s = true) (bad : List Int) (v : Value) (w : World) (hv : NumsAt w .i64 v bad) (hlb : bad.length ≤ 1000000) :
    Calls Try.prog 8 #[.agg #[.int .i64 (b : Int), .int .i64 (p : Int), .int .i64 (s : Int)], v] w fun e w' => ∃ P Q G, e = .returned (.tuple #[.pointer (some ⟨P, 0, none⟩), .int .i64 0]) ∧ NandAt w' P Q w.heap.size G (badS (newS b p s) bad) ∧ Below w.heap.size w w' := by
  have HRB := hide (show 4 ≤ b ∧ b ≤ 256 ∧ 2 ≤ p ∧ p ≤ 64 ∧ 32 ≤ s ∧ s ≤ 1024 by
    unfold rightS at hR
    have := of_decide_eq_true hR
    omega)
  have HR := hide (fun W => right_any (b : Int) (p : Int) (s : Int) W)
  rw [hR] at HR
  have HF := hide (fun W => filled_any (b : Int) (p : Int) s HRB.out.2.2.2.2.2 ffB (by decide) (by decide) W)
  rw [show ffB = ⟨#[255]⟩ from rfl] at HF
  have HRP := hide (fun pb W hW => repeat_any (filledP s ffB) pb p (by have := HRB.out; omega) HRB.out.2.2.2.1 W hW)
  have HV := hide hv
  have hmk := fun W => run_make_rows (P := Try.prog) 72 78 (z := .agg #[.slice none 0 0, .int .i64 0, .int .i64 0, .bool false, .bool false, .bool false]) (B := 48) (k := 6) rawC Try.underlying72 (by kernel_rfl) rfl rfl (by decide) b (by have := HRB.out; omega) (by have := HRB.out; omega) W
  clear hR hv
  go_enter Try.func8, Try.ntmps8
  go_wp2_with fail
  refine (HR.out _).mono ?_
  rintro e w1 ⟨rfl, hb⟩
  have hal := (Below.refl w.heap.size w).alloc (Nat.le_refl _) (.cells #[.int .i64 (b : Int), .int .i64 (p : Int), .int .i64 (s : Int)] 26)
  have XS0 := hide ((hb.block w.heap.size (by simp)).trans (heap_new w (.cells #[.int .i64 (b : Int), .int .i64 (p : Int), .int .i64 (s : Int)] 26)))
  have BL0 := hide (hal.trans (hb.mono (by simp)))
  clear hb hal HR
  go_upto_region 3 with (fail)
  generalize hsb : w.heap.size = sb at XS0 ⊢
  go_cut [6] from 14 to 22 (fun s6 W => ∃ P Q, s6 = .pointer (some ⟨P, 0, none⟩) ∧ ChipW W P Q w.heap.size 0 (fun _ => 0) (newS b p s) ∧ W.heap[sb]? = some (.cells #[.int .i64 (b : Int), .int .i64 (p : Int), .int .i64 (s : Int)] 26 (0, 0)) ∧ Below w.heap.size w W)
  case first =>
    have XS0 := hide (show w1.drew.heap[sb]? = _ from XS0.out)
    have BL0 := hide (show Below w.heap.size w w1.drew from BL0.out.drew)
    refine wp_region_held_drew (S := (fun W => W.cell? ⟨sb, 0, none⟩ = some (.int .i64 (b : Int)) ∧ W.cell? ⟨sb, 1, none⟩ = some (.int .i64 (p : Int)) ∧ W.cell? ⟨sb, 2, none⟩ = some (.int .i64 (s : Int)))) (by kernel_rfl) (⟨cell_of_block XS0.out 0, cell_of_block XS0.out 1, cell_of_block XS0.out 2⟩) (fun hHeld => ?_)
    generalize w1.drew = v0 at *
    refine wpAnyH_take (i := 0) (oi := { dst := some 14, op := Op.load 26 (Operand.tmp 2), type := 26, pos := "nand.go:69", after := #[], guard := none }) (v := ?_) rfl (by kernel_rfl) (by kernel_rfl) (by kernel_rfl) (fun _ _ _ h => h) (Or.inl ⟨by kernel_rfl, ?_⟩) hHeld ?_
    rotate_left
    · (intro w hSw; (try dsimp only at hSw); go_simp); try with_reducible rfl
    try simp only [Act.put, List.setIfInBounds_toArray, List.set_cons_zero, List.set_cons_succ]
    refine wpAnyH_take (i := 1) (oi := { dst := some 15, op := Op.load 26 (Operand.tmp 2), type := 26, pos := "nand.go:69", after := #[], guard := none }) (v := ?_) rfl (by kernel_rfl) (by kernel_rfl) (by kernel_rfl) (fun _ _ _ h => h) (Or.inl ⟨by kernel_rfl, ?_⟩) hHeld ?_
    rotate_left
    · (intro w hSw; (try dsimp only at hSw); go_simp); try with_reducible rfl
    try simp only [Act.put, List.setIfInBounds_toArray, List.set_cons_zero, List.set_cons_succ]
    refine wpAnyH_take (i := 3) (oi := { dst := some 17, op := Op.fieldAddr 26 (Operand.tmp 2) 0, type := 0, pos := "nand.go:69", after := #[], guard := none }) (v := ?_) rfl (by kernel_rfl) (by kernel_rfl) (by kernel_rfl) (fun _ _ _ h => h) (Or.inl ⟨by kernel_rfl, ?_⟩) hHeld ?_
    rotate_left
    · (intro w hSw; (try dsimp only at hSw); go_simp); try with_reducible rfl
    try simp only [Act.put, List.setIfInBounds_toArray, List.set_cons_zero, List.set_cons_succ]
    refine wpAnyH_take (i := 4) (oi := { dst := some 18, op := Op.load 3 (Operand.tmp 17), type := 3, pos := "nand.go:69", after := #[{ on := 3, ground := Ground.data }], guard := none }) (v := ?_) rfl (by kernel_rfl) (by kernel_rfl) (by kernel_rfl) (fun _ _ _ h => h) (Or.inl ⟨by kernel_rfl, ?_⟩) hHeld ?_
    rotate_left
    · (intro w hSw; (try dsimp only at hSw); go_simp); try with_reducible rfl
    try simp only [Act.put, List.setIfInBounds_toArray, List.set_cons_zero, List.set_cons_succ]
    refine wpAnyH_ready (rs := [2, 5]) (by kernel_rfl) (by simp) (AllReadyH.cons (o := { dst := some 16, op := Op.call { callee := Callee.value (Operand.func 33), args := #[Operand.tmp 15, Operand.const (Value.string { data := #[255] })], argTypes := #[26, 9] }, type := 70, pos := "nand.go:69", after := #[{ on := 1, ground := Ground.data }], guard := none }) rfl (fun K hK => ?_) (AllReadyH.cons (o := { dst := some 19, op := Op.makeSlice 72 (Operand.tmp 18) (Operand.tmp 18), type := 72, pos := "nand.go:69", after := #[{ on := 4, ground := Ground.data }, { on := 4, ground := Ground.data }], guard := none }) rfl (fun K hK => ?_) AllReadyH.nil))
    · have hOld := hide hHeld
      clear hHeld
      go_simp
      refine (HF.out _).mono ?_
      rintro e v2 ⟨rfl, hb⟩
      have XS2 := hide ((hb.block _ (heap_lt XS0.out)).trans XS0.out)
      have BL2 := hide (BL0.out.trans (hb.mono BL0.out.size))
      clear hb
      (try go_wp2_with fail)
      refine hK.out _ _ (⟨cell_of_block XS2.out 0, cell_of_block XS2.out 1, cell_of_block XS2.out 2⟩) (fun hHeld => ?_)
      clear hK K hOld
      try simp only [Act.put, List.setIfInBounds_toArray, List.set_cons_zero, List.set_cons_succ]
      refine wpAnyH_ready (rs := [5]) (by kernel_rfl) (by simp) (AllReadyH.cons (o := { dst := some 19, op := Op.makeSlice 72 (Operand.tmp 18) (Operand.tmp 18), type := 72, pos := "nand.go:69", after := #[{ on := 4, ground := Ground.data }, { on := 4, ground := Ground.data }], guard := none }) rfl (fun K hK => ?_) AllReadyH.nil)
      have hOld := hide hHeld
      clear hHeld
      go_simp
      try simp only [hmk, Result.andThen]
      obtain ⟨ob, hob⟩ : ∃ ob, ob = Obj.cells ((List.replicate b ()).flatMap fun _ => rawC).toArray 78 := ⟨_, rfl⟩
      have hal := (Below.refl v2.heap.size v2).alloc (Nat.le_refl _) ob
      have XS5 := hide ((hal.block _ (heap_lt XS2.out)).trans XS2.out)
      have BL5 := hide (BL2.out.trans (hal.mono BL2.out.size))
      have RQ5 := hide (heap_new v2 ob)
      have HQB := hide (show w.heap.size ≤ v2.heap.size from BL2.out.size)
      clear hal
      try rw [← hob]
      generalize v2.alloc ob = v5 at *
      generalize v2.heap.size = Q at *
      rw [hob] at RQ5
      clear hob
      (try go_wp2_with fail)
      refine hK.out _ _ (⟨cell_of_block XS5.out 0, cell_of_block XS5.out 1, cell_of_block XS5.out 2⟩) (fun hHeld => ?_)
      clear hK K hOld
      try simp only [Act.put, List.setIfInBounds_toArray, List.set_cons_zero, List.set_cons_succ]
      refine wpAnyH_take (i := 6) (oi := { dst := some 20, op := Op.build 74 #[(0, Operand.tmp 14), (1, Operand.tmp 16), (2, Operand.tmp 19)], type := 74, pos := "nand.go:69", after := #[{ on := 0, ground := Ground.data }, { on := 2, ground := Ground.data }, { on := 5, ground := Ground.data }], guard := none }) (v := ?_) rfl (by kernel_rfl) (by kernel_rfl) (by kernel_rfl) (fun _ _ _ h => h) (Or.inl ⟨by kernel_rfl, ?_⟩) hHeld ?_
      rotate_left
      · (intro w hSw; (try dsimp only at hSw); go_simp); try with_reducible rfl
      try simp only [Act.put, List.setIfInBounds_toArray, List.set_cons_zero, List.set_cons_succ]
      refine wpAnyH_ready (rs := [7]) (by kernel_rfl) (by simp) (AllReadyH.cons (o := { dst := some 21, op := Op.box 74 (Operand.tmp 20), type := 28, pos := "nand.go:69", after := #[{ on := 6, ground := Ground.data }], guard := none }) rfl (fun K hK => ?_) AllReadyH.nil)
      have hOld := hide hHeld
      clear hHeld
      go_simp
      obtain ⟨oc, hoc⟩ : ∃ oc, oc = Obj.cells (chipC Q (newS b p s)).toArray 74 := ⟨_, rfl⟩
      have hcc : (chipC Q (newS b p s)).toArray = #[.int .i64 (b : Int), .int .i64 (p : Int), .int .i64 (s : Int), .string (filledP s ⟨#[255]⟩).1, .string (filledP s ⟨#[255]⟩).2, .slice (some ⟨Q, 0, none⟩) b b, .int .i64 0, .int .i64 0, .int .i64 0, .int .i64 0, .string ⟨#[]⟩, .bool false] := by
        unfold chipC; rw [newS_len]; rfl
      rw [hcc] at hoc
      have hal := (Below.refl v5.heap.size v5).alloc (Nat.le_refl _) oc
      have XS7 := hide ((hal.block _ (heap_lt XS5.out)).trans XS5.out)
      have BL7 := hide (BL5.out.trans (hal.mono BL5.out.size))
      have RQ7 := hide ((hal.block _ (heap_lt RQ5.out)).trans RQ5.out)
      have RP7 := hide (heap_new v5 oc)
      have HPB := hide (show w.heap.size ≤ v5.heap.size from BL5.out.size)
      clear hal
      try rw [← hoc]
      generalize v5.alloc oc = v7 at *
      generalize v5.heap.size = P at *
      rw [hoc, ← hcc] at RP7
      clear hoc hcc
      (try go_wp2_with fail)
      refine hK.out _ _ (⟨cell_of_block XS7.out 0, cell_of_block XS7.out 1, cell_of_block XS7.out 2⟩) (fun hHeld => ?_)
      clear hK K hOld
      try simp only [Act.put, List.setIfInBounds_toArray, List.set_cons_zero, List.set_cons_succ]
      refine wpAnyH_take (i := 8) (oi := { dst := some 6, op := Op.assign (Operand.tmp 21), type := 28, pos := "nand.go:69", after := #[{ on := 7, ground := Ground.data }, { on := 2, ground := Ground.chain }, { on := 0, ground := Ground.phase }, { on := 1, ground := Ground.phase }, { on := 2, ground := Ground.phase }, { on := 3, ground := Ground.phase }, { on := 4, ground := Ground.phase }, { on := 5, ground := Ground.phase }, { on := 6, ground := Ground.phase }, { on := 7, ground := Ground.phase }], guard := none }) (v := ?_) rfl (by kernel_rfl) (by kernel_rfl) (by kernel_rfl) (fun _ _ _ h => h) (Or.inl ⟨by kernel_rfl, ?_⟩) hHeld ?_
      rotate_left
      · (intro w hSw; (try dsimp only at hSw); go_simp); try with_reducible rfl
      try simp only [Act.put, List.setIfInBounds_toArray, List.set_cons_zero, List.set_cons_succ]
      refine wpAnyH_done (by kernel_rfl) ?_ _
      clear hHeld
      go_wp2_with fail
      go_meet
      exact ⟨P, Q, rfl, ChipW.first b p s RP7.out RQ7.out ⟨HPB.out, HQB.out⟩, XS7.out, BL7.out⟩
    · have hOld := hide hHeld
      clear hHeld
      go_simp
      try simp only [hmk, Result.andThen]
      obtain ⟨ob, hob⟩ : ∃ ob, ob = Obj.cells ((List.replicate b ()).flatMap fun _ => rawC).toArray 78 := ⟨_, rfl⟩
      have hal := (Below.refl v0.heap.size v0).alloc (Nat.le_refl _) ob
      have XS5 := hide ((hal.block _ (heap_lt XS0.out)).trans XS0.out)
      have BL5 := hide (BL0.out.trans (hal.mono BL0.out.size))
      have RQ5 := hide (heap_new v0 ob)
      have HQB := hide (show w.heap.size ≤ v0.heap.size from BL0.out.size)
      clear hal
      try rw [← hob]
      generalize v0.alloc ob = v5 at *
      generalize v0.heap.size = Q at *
      rw [hob] at RQ5
      clear hob
      (try go_wp2_with fail)
      refine hK.out _ _ (⟨cell_of_block XS5.out 0, cell_of_block XS5.out 1, cell_of_block XS5.out 2⟩) (fun hHeld => ?_)
      clear hK K hOld
      try simp only [Act.put, List.setIfInBounds_toArray, List.set_cons_zero, List.set_cons_succ]
      refine wpAnyH_ready (rs := [2]) (by kernel_rfl) (by simp) (AllReadyH.cons (o := { dst := some 16, op := Op.call { callee := Callee.value (Operand.func 33), args := #[Operand.tmp 15, Operand.const (Value.string { data := #[255] })], argTypes := #[26, 9] }, type := 70, pos := "nand.go:69", after := #[{ on := 1, ground := Ground.data }], guard := none }) rfl (fun K hK => ?_) AllReadyH.nil)
      have hOld := hide hHeld
      clear hHeld
      go_simp
      refine (HF.out _).mono ?_
      rintro e v2 ⟨rfl, hb⟩
      have XS2 := hide ((hb.block _ (heap_lt XS5.out)).trans XS5.out)
      have BL2 := hide (BL5.out.trans (hb.mono BL5.out.size))
      have RQ2 := hide ((hb.block _ (heap_lt RQ5.out)).trans RQ5.out)
      clear hb
      (try go_wp2_with fail)
      refine hK.out _ _ (⟨cell_of_block XS2.out 0, cell_of_block XS2.out 1, cell_of_block XS2.out 2⟩) (fun hHeld => ?_)
      clear hK K hOld
      try simp only [Act.put, List.setIfInBounds_toArray, List.set_cons_zero, List.set_cons_succ]
      refine wpAnyH_take (i := 6) (oi := { dst := some 20, op := Op.build 74 #[(0, Operand.tmp 14), (1, Operand.tmp 16), (2, Operand.tmp 19)], type := 74, pos := "nand.go:69", after := #[{ on := 0, ground := Ground.data }, { on := 2, ground := Ground.data }, { on := 5, ground := Ground.data }], guard := none }) (v := ?_) rfl (by kernel_rfl) (by kernel_rfl) (by kernel_rfl) (fun _ _ _ h => h) (Or.inl ⟨by kernel_rfl, ?_⟩) hHeld ?_
      rotate_left
      · (intro w hSw; (try dsimp only at hSw); go_simp); try with_reducible rfl
      try simp only [Act.put, List.setIfInBounds_toArray, List.set_cons_zero, List.set_cons_succ]
      refine wpAnyH_ready (rs := [7]) (by kernel_rfl) (by simp) (AllReadyH.cons (o := { dst := some 21, op := Op.box 74 (Operand.tmp 20), type := 28, pos := "nand.go:69", after := #[{ on := 6, ground := Ground.data }], guard := none }) rfl (fun K hK => ?_) AllReadyH.nil)
      have hOld := hide hHeld
      clear hHeld
      go_simp
      obtain ⟨oc, hoc⟩ : ∃ oc, oc = Obj.cells (chipC Q (newS b p s)).toArray 74 := ⟨_, rfl⟩
      have hcc : (chipC Q (newS b p s)).toArray = #[.int .i64 (b : Int), .int .i64 (p : Int), .int .i64 (s : Int), .string (filledP s ⟨#[255]⟩).1, .string (filledP s ⟨#[255]⟩).2, .slice (some ⟨Q, 0, none⟩) b b, .int .i64 0, .int .i64 0, .int .i64 0, .int .i64 0, .string ⟨#[]⟩, .bool false] := by
        unfold chipC; rw [newS_len]; rfl
      rw [hcc] at hoc
      have hal := (Below.refl v2.heap.size v2).alloc (Nat.le_refl _) oc
      have XS7 := hide ((hal.block _ (heap_lt XS2.out)).trans XS2.out)
      have BL7 := hide (BL2.out.trans (hal.mono BL2.out.size))
      have RQ7 := hide ((hal.block _ (heap_lt RQ2.out)).trans RQ2.out)
      have RP7 := hide (heap_new v2 oc)
      have HPB := hide (show w.heap.size ≤ v2.heap.size from BL2.out.size)
      clear hal
      try rw [← hoc]
      generalize v2.alloc oc = v7 at *
      generalize v2.heap.size = P at *
      rw [hoc, ← hcc] at RP7
      clear hoc hcc
      (try go_wp2_with fail)
      refine hK.out _ _ (⟨cell_of_block XS7.out 0, cell_of_block XS7.out 1, cell_of_block XS7.out 2⟩) (fun hHeld => ?_)
      clear hK K hOld
      try simp only [Act.put, List.setIfInBounds_toArray, List.set_cons_zero, List.set_cons_succ]
      refine wpAnyH_take (i := 8) (oi := { dst := some 6, op := Op.assign (Operand.tmp 21), type := 28, pos := "nand.go:69", after := #[{ on := 7, ground := Ground.data }, { on := 2, ground := Ground.chain }, { on := 0, ground := Ground.phase }, { on := 1, ground := Ground.phase }, { on := 2, ground := Ground.phase }, { on := 3, ground := Ground.phase }, { on := 4, ground := Ground.phase }, { on := 5, ground := Ground.phase }, { on := 6, ground := Ground.phase }, { on := 7, ground := Ground.phase }], guard := none }) (v := ?_) rfl (by kernel_rfl) (by kernel_rfl) (by kernel_rfl) (fun _ _ _ h => h) (Or.inl ⟨by kernel_rfl, ?_⟩) hHeld ?_
      rotate_left
      · (intro w hSw; (try dsimp only at hSw); go_simp); try with_reducible rfl
      try simp only [Act.put, List.setIfInBounds_toArray, List.set_cons_zero, List.set_cons_succ]
      refine wpAnyH_done (by kernel_rfl) ?_ _
      clear hHeld
      go_wp2_with fail
      go_meet
      exact ⟨P, Q, rfl, ChipW.first b p s RP7.out RQ7.out ⟨HPB.out, HQB.out⟩, XS7.out, BL7.out⟩
  case rest =>
    obtain ⟨P, Q, rfl, hcw, hxs, hbl⟩ := hcut
    have CWA := hide hcw
    have XSA := hide hxs
    have BLA := hide hbl
    have c5 := new5 CWA.out
    clear hcw hxs hbl XS0 BL0 hmk
    go_wp2_with fail
    clear c5
    go_loopw [27] (fun z W => ∃ (m : Nat) (G : Nat → Nat), m ≤ b ∧ z = .int .i64 m ∧ ChipW W P Q w.heap.size m G (newS b p s) ∧ W.heap[sb]? = some (.cells #[.int .i64 (b : Int), .int .i64 (p : Int), .int .i64 (s : Int)] 26 (0, 0)) ∧ Below w.heap.size w W) (fun z _ => b - (intOf z).toNat)
    case atStart => exact ⟨0, _, by omega, rfl, CWA.out, XSA.out, BLA.out⟩
    case round =>
      obtain ⟨m, G, hm, rfl, hcw, hxs, hbl⟩ := hrel
      have CW0 := hide hcw
      have XS0 := hide hxs
      have BL0 := hide hbl
      clear hcw hxs hbl
      by_cases hlt : m < b
      · have hlt2 : (m : Int) < (b : Int) := by omega
        have hb256 : b ≤ 256 := HRB.out.2.1
        go_upto_region 7 with (fail)
        have XS0 := hide (show wr.drew.heap[sb]? = _ from XS0.out)
        have CW0 := hide (show ChipW wr.drew P Q w.heap.size m G (newS b p s) from CW0.out.drewN 1)
        have BL0 := hide (show Below w.heap.size w wr.drew from BL0.out.drew)
        refine wp_region_held_drew (S := (fun W => W.cell? ⟨sb, 1, none⟩ = some (.int .i64 (p : Int)) ∧ W.cell? ⟨P, 3, none⟩ = some (.string (filledP s ffB).1) ∧ W.cell? ⟨P, 4, none⟩ = some (.string (filledP s ffB).2) ∧ W.cell? ⟨P, 5, none⟩ = some (.slice (some ⟨Q, 0, none⟩) b b))) (by kernel_rfl) (⟨cell_of_block XS0.out 1, new3 CW0.out, new4 CW0.out, new5 CW0.out⟩) (fun hHeld => ?_)
        generalize wr.drew = v0 at *
        refine wpAnyH_take (i := 0) (oi := { dst := some 30, op := Op.move (Operand.tmp 6), type := 28, pos := "nand.go:71", after := #[], guard := none }) (v := ?_) rfl (by kernel_rfl) (by kernel_rfl) (by kernel_rfl) (fun _ _ _ h => h) (Or.inl ⟨by kernel_rfl, ?_⟩) hHeld ?_
        rotate_left
        · (intro w hSw; (try dsimp only at hSw); go_simp); try with_reducible rfl
        try simp only [Act.put, List.setIfInBounds_toArray, List.set_cons_zero, List.set_cons_succ]
        refine wpAnyH_take (i := 1) (oi := { dst := some 31, op := Op.nilCheck (Operand.tmp 30), type := 0, pos := "nand.go:71", after := #[{ on := 0, ground := Ground.data }], guard := none }) (v := ?_) rfl (by kernel_rfl) (by kernel_rfl) (by kernel_rfl) (fun _ _ _ h => h) (Or.inl ⟨by kernel_rfl, ?_⟩) hHeld ?_
        rotate_left
        · (intro w hSw; (try dsimp only at hSw); go_simp); try with_reducible rfl
        try simp only [Act.put, List.setIfInBounds_toArray, List.set_cons_zero, List.set_cons_succ]
        refine wpAnyH_take (i := 2) (oi := { dst := some 32, op := Op.fieldAddr 74 (Operand.tmp 31) 2, type := 0, pos := "nand.go:71", after := #[{ on := 1, ground := Ground.data }], guard := none }) (v := ?_) rfl (by kernel_rfl) (by kernel_rfl) (by kernel_rfl) (fun _ _ _ h => h) (Or.inl ⟨by kernel_rfl, ?_⟩) hHeld ?_
        rotate_left
        · (intro w hSw; (try dsimp only at hSw); go_simp); try with_reducible rfl
        try simp only [Act.put, List.setIfInBounds_toArray, List.set_cons_zero, List.set_cons_succ]
        refine wpAnyH_take (i := 3) (oi := { dst := some 33, op := Op.load 72 (Operand.tmp 32), type := 72, pos := "nand.go:71", after := #[{ on := 2, ground := Ground.data }], guard := none }) (v := ?_) rfl (by kernel_rfl) (by kernel_rfl) (by kernel_rfl) (fun _ _ _ h => h) (Or.inl ⟨by kernel_rfl, ?_⟩) hHeld ?_
        rotate_left
        · (intro w hSw; (try dsimp only at hSw); go_simp); try with_reducible rfl
        try simp only [Act.put, List.setIfInBounds_toArray, List.set_cons_zero, List.set_cons_succ]
        refine wpAnyH_take (i := 4) (oi := { dst := some 34, op := Op.move (Operand.tmp 7), type := 3, pos := "nand.go:71", after := #[], guard := none }) (v := ?_) rfl (by kernel_rfl) (by kernel_rfl) (by kernel_rfl) (fun _ _ _ h => h) (Or.inl ⟨by kernel_rfl, ?_⟩) hHeld ?_
        rotate_left
        · (intro w hSw; (try dsimp only at hSw); go_simp); try with_reducible rfl
        try simp only [Act.put, List.setIfInBounds_toArray, List.set_cons_zero, List.set_cons_succ]
        refine wpAnyH_take (i := 5) (oi := { dst := some 35, op := Op.move (Operand.tmp 6), type := 28, pos := "nand.go:71", after := #[], guard := none }) (v := ?_) rfl (by kernel_rfl) (by kernel_rfl) (by kernel_rfl) (fun _ _ _ h => h) (Or.inl ⟨by kernel_rfl, ?_⟩) hHeld ?_
        rotate_left
        · (intro w hSw; (try dsimp only at hSw); go_simp); try with_reducible rfl
        try simp only [Act.put, List.setIfInBounds_toArray, List.set_cons_zero, List.set_cons_succ]
        refine wpAnyH_take (i := 6) (oi := { dst := some 36, op := Op.nilCheck (Operand.tmp 35), type := 0, pos := "nand.go:71", after := #[{ on := 5, ground := Ground.data }], guard := none }) (v := ?_) rfl (by kernel_rfl) (by kernel_rfl) (by kernel_rfl) (fun _ _ _ h => h) (Or.inl ⟨by kernel_rfl, ?_⟩) hHeld ?_
        rotate_left
        · (intro w hSw; (try dsimp only at hSw); go_simp); try with_reducible rfl
        try simp only [Act.put, List.setIfInBounds_toArray, List.set_cons_zero, List.set_cons_succ]
        refine wpAnyH_take (i := 7) (oi := { dst := some 37, op := Op.fieldAddr 74 (Operand.tmp 36) 1, type := 0, pos := "nand.go:71", after := #[{ on := 6, ground := Ground.data }], guard := none }) (v := ?_) rfl (by kernel_rfl) (by kernel_rfl) (by kernel_rfl) (fun _ _ _ h => h) (Or.inl ⟨by kernel_rfl, ?_⟩) hHeld ?_
        rotate_left
        · (intro w hSw; (try dsimp only at hSw); go_simp); try with_reducible rfl
        try simp only [Act.put, List.setIfInBounds_toArray, List.set_cons_zero, List.set_cons_succ]
        refine wpAnyH_take (i := 8) (oi := { dst := some 38, op := Op.load 70 (Operand.tmp 37), type := 70, pos := "nand.go:71", after := #[{ on := 7, ground := Ground.data }], guard := none }) (v := ?_) rfl (by kernel_rfl) (by kernel_rfl) (by kernel_rfl) (fun _ _ _ h => h) (Or.inl ⟨by kernel_rfl, ?_⟩) hHeld ?_
        rotate_left
        · (intro w hSw; (try dsimp only at hSw); go_simp); try with_reducible rfl
        try simp only [Act.put, List.setIfInBounds_toArray, List.set_cons_zero, List.set_cons_succ]
        refine wpAnyH_take (i := 10) (oi := { dst := some 40, op := Op.fieldAddr 26 (Operand.tmp 2) 1, type := 0, pos := "nand.go:71", after := #[], guard := none }) (v := ?_) rfl (by kernel_rfl) (by kernel_rfl) (by kernel_rfl) (fun _ _ _ h => h) (Or.inl ⟨by kernel_rfl, ?_⟩) hHeld ?_
        rotate_left
        · (intro w hSw; (try dsimp only at hSw); go_simp); try with_reducible rfl
        try simp only [Act.put, List.setIfInBounds_toArray, List.set_cons_zero, List.set_cons_succ]
        refine wpAnyH_take (i := 11) (oi := { dst := some 41, op := Op.load 3 (Operand.tmp 40), type := 3, pos := "nand.go:71", after := #[{ on := 10, ground := Ground.data }], guard := none }) (v := ?_) rfl (by kernel_rfl) (by kernel_rfl) (by kernel_rfl) (fun _ _ _ h => h) (Or.inl ⟨by kernel_rfl, ?_⟩) hHeld ?_
        rotate_left
        · (intro w hSw; (try dsimp only at hSw); go_simp); try with_reducible rfl
        try simp only [Act.put, List.setIfInBounds_toArray, List.set_cons_zero, List.set_cons_succ]
        refine wpAnyH_ready (rs := [9]) (by kernel_rfl) (by simp) (AllReadyH.cons (o := { dst := some 39, op := Op.buildSlice 75 1 #[(0, Operand.tmp 38)], type := 75, pos := "nand.go:71", after := #[{ on := 8, ground := Ground.data }], guard := none }) rfl (fun K hK => ?_) AllReadyH.nil)
        have hOld := hide hHeld
        clear hHeld
        go_simp
        obtain ⟨ob, hob⟩ : ∃ ob, ob = Obj.cells #[.string (filledP s ffB).1, .string (filledP s ffB).2] 70 := ⟨_, rfl⟩
        rw [← hob]
        have hal := (Below.refl v0.heap.size v0).alloc (Nat.le_refl _) ob
        have XS9 := hide ((hal.block _ (heap_lt XS0.out)).trans XS0.out)
        have CW9 := hide (CW0.out.below hal)
        have BL9 := hide (BL0.out.trans (hal.mono BL0.out.size))
        have PB9 := hide (heap_new v0 ob)
        clear hal
        generalize v0.alloc ob = v9 at *
        generalize v0.heap.size = pb at *
        rw [hob] at PB9
        clear hob
        (try go_wp2_with fail)
        refine hK.out _ _ (⟨cell_of_block XS9.out 1, new3 CW9.out, new4 CW9.out, new5 CW9.out⟩) (fun hHeld => ?_)
        clear hK K hOld
        try simp only [Act.put, List.setIfInBounds_toArray, List.set_cons_zero, List.set_cons_succ]
        refine wpAnyH_ready (rs := [12]) (by kernel_rfl) (by simp) (AllReadyH.cons (o := { dst := some 42, op := Op.call { callee := Callee.value (Operand.func 34), args := #[Operand.tmp 39, Operand.tmp 41], argTypes := #[75, 3] }, type := 75, pos := "nand.go:71", after := #[{ on := 9, ground := Ground.data }, { on := 11, ground := Ground.data }], guard := none }) rfl (fun K hK => ?_) AllReadyH.nil)
        have hOld := hide hHeld
        clear hHeld
        go_simp
        refine (HRP.out pb v9 PB9.out).mono ?_
        rintro e v12 ⟨g, rfl, hg1, hg2, hb⟩
        have XS12 := hide ((hb.block _ (heap_lt XS9.out)).trans XS9.out)
        have CW12 := hide (CW9.out.below hb)
        have BL12 := hide (BL9.out.trans (hb.mono BL9.out.size))
        have RG12 := hide hg2
        have HGN := hide (show ∀ k, k < m → G k ≠ g from fun k hk e => by
          have h1 := (CW9.out.page k hk).lt
          omega)
        have HGB := hide (show w.heap.size ≤ g from Nat.le_trans BL9.out.size hg1)
        clear hb hg1 hg2
        have d0 : v12.cell? ⟨Q, m * 6, none⟩ = some (.slice none 0 0) := CW12.out.raw (by rw [newS_len]; exact hlt) 0 (by decide)
        have f0 := CW12.out.row.free (m * 6)
        (try go_wp2_with fail)
        refine hK.out _ _ (⟨cell_of_block XS12.out 1, new3 CW12.out, new4 CW12.out, new5 CW12.out⟩) (fun hHeld => ?_)
        clear hK K hOld
        try simp only [Act.put, List.setIfInBounds_toArray, List.set_cons_zero, List.set_cons_succ]
        refine wpAnyH_take (i := 13) (oi := { dst := some 43, op := Op.indexAddr 72 (Operand.tmp 33) (Operand.tmp 34), type := 0, pos := "nand.go:71", after := #[{ on := 3, ground := Ground.data }, { on := 4, ground := Ground.data }, { on := 0, ground := Ground.phase }, { on := 1, ground := Ground.phase }, { on := 2, ground := Ground.phase }, { on := 3, ground := Ground.phase }, { on := 4, ground := Ground.phase }, { on := 5, ground := Ground.phase }, { on := 6, ground := Ground.phase }, { on := 7, ground := Ground.phase }, { on := 8, ground := Ground.phase }, { on := 9, ground := Ground.phase }, { on := 10, ground := Ground.phase }, { on := 11, ground := Ground.phase }, { on := 12, ground := Ground.phase }], guard := none }) (v := ?_) rfl (by kernel_rfl) (by kernel_rfl) (by kernel_rfl) (fun _ _ _ h => h) (Or.inl ⟨by kernel_rfl, ?_⟩) hHeld ?_
        rotate_left
        · (intro w hSw; (try dsimp only at hSw); go_simp); try with_reducible rfl
        try simp only [Act.put, List.setIfInBounds_toArray, List.set_cons_zero, List.set_cons_succ]
        refine wpAnyH_take (i := 14) (oi := { dst := some 44, op := Op.fieldAddr 78 (Operand.tmp 43) 0, type := 0, pos := "nand.go:71", after := #[{ on := 13, ground := Ground.data }, { on := 0, ground := Ground.phase }, { on := 1, ground := Ground.phase }, { on := 2, ground := Ground.phase }, { on := 3, ground := Ground.phase }, { on := 4, ground := Ground.phase }, { on := 5, ground := Ground.phase }, { on := 6, ground := Ground.phase }, { on := 7, ground := Ground.phase }, { on := 8, ground := Ground.phase }, { on := 9, ground := Ground.phase }, { on := 10, ground := Ground.phase }, { on := 11, ground := Ground.phase }, { on := 12, ground := Ground.phase }], guard := none }) (v := ?_) rfl (by kernel_rfl) (by kernel_rfl) (by kernel_rfl) (fun _ _ _ h => h) (Or.inl ⟨by kernel_rfl, ?_⟩) hHeld ?_
        rotate_left
        · (intro w hSw; (try dsimp only at hSw); go_simp); try with_reducible rfl
        try simp only [Act.put, List.setIfInBounds_toArray, List.set_cons_zero, List.set_cons_succ]
        refine wpAnyH_ready (rs := [15]) (by kernel_rfl) (by simp) (AllReadyH.cons (o := { dst := none, op := Op.store 75 (Operand.tmp 44) (Operand.tmp 42), type := 0, pos := "nand.go:71", after := #[{ on := 14, ground := Ground.data }, { on := 12, ground := Ground.data }, { on := 12, ground := Ground.chain }, { on := 0, ground := Ground.phase }, { on := 1, ground := Ground.phase }, { on := 2, ground := Ground.phase }, { on := 3, ground := Ground.phase }, { on := 4, ground := Ground.phase }, { on := 5, ground := Ground.phase }, { on := 6, ground := Ground.phase }, { on := 7, ground := Ground.phase }, { on := 8, ground := Ground.phase }, { on := 9, ground := Ground.phase }, { on := 10, ground := Ground.phase }, { on := 11, ground := Ground.phase }, { on := 12, ground := Ground.phase }], guard := none }) rfl (fun K hK => ?_) AllReadyH.nil)
        have hOld := hide hHeld
        clear hHeld
        go_simp
        have hst := CW12.out.step (by rw [newS_len]; exact hlt) (by rw [newS_blk b p s m hlt]) (by rw [newS_blk b p s m hlt]; exact RG12.out) HGB.out HGN.out
        rw [newS_blk b p s m hlt] at hst
        simp only [List.length_replicate] at hst
        have CW15 := hide hst
        have XS15 := hide ((block_setCell_other (CW12.out.qs XS12.out) (m * 6) (.slice (some ⟨g, 0, none⟩) p p)).trans XS12.out)
        have BL15 := hide (show Below w.heap.size w (v12.setCell ⟨Q, m * 6, none⟩ (.slice (some ⟨g, 0, none⟩) p p)) from BL12.out.setCell CW12.out.base.2.1 _)
        clear hst
        generalize v12.setCell ⟨Q, m * 6, none⟩ (.slice (some ⟨g, 0, none⟩) p p) = v15 at *
        (try go_wp2_with fail)
        refine hK.out _ _ (⟨cell_of_block XS15.out 1, new3 CW15.out, new4 CW15.out, new5 CW15.out⟩) (fun hHeld => ?_)
        clear hK K hOld
        try simp only [Act.put, List.setIfInBounds_toArray, List.set_cons_zero, List.set_cons_succ]
        refine wpAnyH_done (by kernel_rfl) ?_ _
        clear hHeld
        go_wp2_with fail
        go_roundw
        case rel => exact ⟨m + 1, _, by omega, by go_num, CW15.out, XS15.out, BL15.out⟩
        case measure => simp [intOf]; omega
      · obtain rfl : m = b := by omega
        have NA := hide (ChipW.done (by rw [newS_len]; exact CW0.out) (fun k hk => by rw [newS_len] at hk; rw [newS_blk m p s k hk]; exact List.length_replicate) ⟨by rw [newS_len]; exact HRB.out.2.1, HRB.out.2.2.2.1⟩)
        clear CW0 XS0 CWA XSA HF HRP
        obtain ⟨a, cap, rfl, hin⟩ := nums_in HV.out
        have HI := hide hin
        clear hin HV
        go_wp2_with fail
        go_loopw [48] (fun z W => ∃ (j : Nat), j ≤ bad.length ∧ z = .int .i64 j ∧ NandAt W P Q w.heap.size G (badS (newS m p s) (bad.take j)) ∧ Below w.heap.size w W) (fun z _ => bad.length - (intOf z).toNat)
        case atStart => exact ⟨0, by omega, rfl, NA.out, BL0.out⟩
        case round =>
          obtain ⟨j, hj, rfl, hn, hbl⟩ := hrel
          have NJ := hide hn
          have BJ := hide hbl
          clear hn hbl
          by_cases hlt : j < bad.length
          · have hlt2 : (j : Int) < (bad.length : Int) := by omega
            obtain ⟨bb, off, rfl, hbb, hcell⟩ := HI.out j hlt
            have hcj : wr.cell? ⟨bb, off + j, none⟩ = some (.int .i64 (bad.getD j 0)) := cell_keep hcell hbb BJ.out
            have HSN := hide (badS_snoc (newS m p s) bad j hlt)
            clear hcell
            generalize bad.getD j 0 = x at *
            have HSL := hide (show (badS (newS m p s) (bad.take j)).L.length = m by rw [badS_len, newS_len])
            have HSP := hide (show (badS (newS m p s) (bad.take j)).pgs = p by rw [badS_pgs]; rfl)
            have HSB := hide (show (badS (newS m p s) (bad.take j)).blank = filledP s ffB by rw [badS_blank]; rfl)
            generalize badS (newS m p s) (bad.take j) = SJ at *
            by_cases hx : 0 ≤ x ∧ x < m
            · obtain ⟨k, rfl⟩ : ∃ k : Nat, (k : Int) = x := ⟨x.toNat, by omega⟩
              have hk : k < SJ.L.length := by rw [HSL.out]; omega
              have HA := hide (fun W hW => at_yes P Q w.heap.size G SJ k hk W hW)
              have HE := hide (show badS (newS m p s) (bad.take (j + 1)) = millS SJ k by rw [HSN.out]; unfold badOne; rw [if_pos ⟨hx.1, by rw [HSL.out]; exact hx.2⟩, Int.toNat_natCast])
              clear hx HSN
              go_wp2_with fail
              refine (HA.out _ NJ.out).mono ?_
              rintro e w2 ⟨rfl, rfl⟩
              have d3 : wr.cell? ⟨Q, k * 6 + 3, none⟩ = some (.bool (SJ.blk k).mill) := NJ.out.slot k hk 3 (by decide)
              have f3 := NJ.out.row.free (k * 6 + 3)
              go_upto_region 15 with (fail)
              have N2 := hide (NJ.out.setBlk k hk 3 (by decide) (.bool true) { SJ.blk k with mill := true } rfl rfl)
              have HBP := hide (show w.heap.size ≤ Q from NJ.out.base.2.1)
              have B2 := hide (show Below w.heap.size w (wr.setCell ⟨Q, k * 6 + 3, none⟩ (.bool true)) from BJ.out.setCell HBP.out _)
              generalize wr.setCell ⟨Q, k * 6 + 3, none⟩ (.bool true) = w3 at *
              obtain ⟨S3, hS3⟩ : ∃ S3, S3 = SJ.put k { SJ.blk k with mill := true } := ⟨_, rfl⟩
              have hk3 : k < S3.L.length := by rw [hS3, put_length]; exact hk
              have hb3 : S3.blk k = { SJ.blk k with mill := true } := by rw [hS3, blk_put_self SJ k _ hk]
              have hp3 : 0 < S3.pgs := by rw [hS3]; show 0 < SJ.pgs; rw [HSP.out]; have := HRB.out; omega
              have hl3 : (S3.blk k).pages.length = p := by rw [hb3]; show (SJ.blk k).pages.length = p; rw [NJ.out.len k hk, HSP.out]
              rw [← hS3] at N2
              have d0 : w3.cell? ⟨Q, k * 6, none⟩ = some (.slice (some ⟨G k, 0, none⟩) p p) := by
                refine (show _ = _ from N2.out.slot k hk3 0 (by decide)).trans ?_
                show some (Value.slice _ (S3.blk k).pages.length (S3.blk k).pages.length) = _
                rw [hl3]
              have hbl : S3.blank = filledP s ffB := by rw [hS3]; exact HSB.out
              have c4 : w3.cell? ⟨P, 4, none⟩ = some (.string (filledP s ffB).2) := by rw [← hbl]; exact N2.out.cell 4
              have e1 := N2.out.leaf k hk3 0 hp3 1 (by decide)
              simp only [pgC, List.getElem?_cons_zero, List.getElem?_cons_succ, Nat.zero_mul, Nat.zero_add] at e1
              have g1 := (N2.out.page k hk3).free 1
              have hz2 : (filledP s ffB).2.size = 32 := (filled_size s ffB (by decide)).2
              obtain ⟨z, hz⟩ : ∃ z, z = (filledP s ffB).2 := ⟨_, rfl⟩
              rw [← hz] at c4 hz2
              obtain ⟨u, hu⟩ : ∃ u, u = ((S3.blk k).pages.getD 0 pg0).2 := ⟨_, rfl⟩
              rw [← hu] at e1
              have N4 := N2.out.setPage k hk3 0 hp3 1 (by decide) (.string (zeroB ++ z.extract 1 z.size)) (((S3.blk k).pages.getD 0 pg0).1, zeroB ++ z.extract 1 z.size) rfl
              have hE4 : S3.put k { S3.blk k with pages := (S3.blk k).pages.set 0 (((S3.blk k).pages.getD 0 pg0).1, zeroB ++ z.extract 1 z.size) } = millS SJ k := by
                unfold millS millB
                rw [hb3, hS3, put_put, HSB.out, hz]
              rw [hE4, ← HE.out] at N4
              have HN4 := hide N4
              have B4 := hide (show Below w.heap.size w (w3.setCell ⟨G k, 1, none⟩ (.string (zeroB ++ z.extract 1 z.size))) from B2.out.setCell (N2.out.base.2.2 k hk3) _)
              have hzs : (z.extract 1 z.size).size = 31 := by rw [ByteArray.size_extract, hz2]; rfl
              have hq1 : (1 : Int) ≤ (z.size : Int) := by omega
              have hq2 : ¬ 9223372036854775807 < 1 + (z.size - 1) := by omega
              have hp1 : 0 < p := by have := HRB.out; omega
              clear hE4 hz hu hz2 hzs hS3 hb3 hbl hk3 hp3 hl3 N4 N2 B2 hk d3 f3
              go_still_tail 13, (by kernel_rfl)
              change wpList _ _ _ _ _ w3.drew
              go_wp2_with fail
              go_roundw
              case rel => exact ⟨j + 1, by omega, by go_num, HN4.out.drew, B4.out.drew⟩
              case measure => simp [intOf]; omega
            · have HE := hide (show badS (newS m p s) (bad.take (j + 1)) = SJ by rw [HSN.out]; unfold badOne; rw [if_neg (fun h => hx ⟨h.1, by have := h.2; rw [HSL.out] at this; exact this⟩)])
              have HA := hide (at_no P Q w.heap.size G SJ x (by rw [HSL.out]; omega) wr NJ.out)
              clear hx HSN
              go_wp2_with fail
              refine HA.out.mono ?_
              rintro e w2 ⟨rfl, rfl⟩
              go_wp2_with fail
              go_roundw
              case rel => exact ⟨j + 1, by omega, by go_num, by rw [HE.out]; exact NJ.out, BJ.out⟩
              case measure => simp [intOf]; omega
          · obtain rfl : j = bad.length := by omega
            have N9 := NJ.out
            rw [List.take_length] at N9
            have NN := hide N9
            clear N9 NJ
            go_wp2_with fail
            go_ret2
            exact ⟨P, Q, G, rfl, NN.out, BJ.out⟩
end Go.Proofs.Ythippbckjldijaa
