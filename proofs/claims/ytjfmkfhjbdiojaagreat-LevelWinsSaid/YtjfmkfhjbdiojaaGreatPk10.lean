/-
  Lemmas and contracts of this project's own, put together: Nand15, Nand16, Nand17, Nand18, M1, M2.
-/
import Derived.Test.YtjfmkfhjbdiojaaGreatPk9
namespace Go.Proofs.YtjfmkfhjbdiojaaGreat
set_option linter.unusedSimpArgs false
set_option linter.unusedVariables false
open Go.RowKit Go.WideShapes Go.ChangeShapes Go.ChangeAt Go.Deep

def ffB : ByteArray := ⟨#[255]⟩
/-- a block as make leaves it -/
def rawC : List Value := [.slice none 0 0, .int .i64 0, .int .i64 0, .bool false, .bool false, .bool false]
/-- a chip as it is made, ahead of the blocks that are bad -/
def newS (b p s : Nat) : ChipM := ⟨p, s, filledP s ffB, List.replicate b ⟨List.replicate p (filledP s ffB), 0, 0, false, false, false⟩, 0, 0, 0, 0, ⟨#[]⟩, false⟩
theorem newS_len (b p s : Nat) : (newS b p s).L.length = b := List.length_replicate
theorem newS_blk (b p s k : Nat) (hk : k < b) : (newS b p s).blk k = ⟨List.replicate p (filledP s ffB), 0, 0, false, false, false⟩ := by
  unfold ChipM.blk newS; simp [List.getD, hk]
/-- a block is bad from the factory -/
def millB (S : ChipM) (b : BlkM) : BlkM := { b with mill := true, pages := b.pages.set 0 ((b.pages.getD 0 pg0).1, zeroB ++ S.blank.2.extract 1 S.blank.2.size) }
def millS (S : ChipM) (k : Nat) : ChipM := S.put k (millB S (S.blk k))
def badOne (S : ChipM) (i : Int) : ChipM := if 0 ≤ i ∧ i < S.L.length then millS S i.toNat else S
def badS (S : ChipM) (L : List Int) : ChipM := L.foldl badOne S
theorem badOne_len (S : ChipM) (i : Int) : (badOne S i).L.length = S.L.length := by unfold badOne; split <;> simp [millS, put_length]
theorem badOne_pgs (S : ChipM) (i : Int) : (badOne S i).pgs = S.pgs := by unfold badOne; split <;> rfl
theorem badOne_blank (S : ChipM) (i : Int) : (badOne S i).blank = S.blank := by unfold badOne; split <;> rfl
theorem badS_len (S : ChipM) (L : List Int) : (badS S L).L.length = S.L.length := by
  induction L generalizing S with
  | nil => rfl
  | cons i L ih => exact (ih (badOne S i)).trans (badOne_len S i)
theorem badS_pgs (S : ChipM) (L : List Int) : (badS S L).pgs = S.pgs := by
  induction L generalizing S with
  | nil => rfl
  | cons i L ih => exact (ih (badOne S i)).trans (badOne_pgs S i)
theorem badS_blank (S : ChipM) (L : List Int) : (badS S L).blank = S.blank := by
  induction L generalizing S with
  | nil => rfl
  | cons i L ih => exact (ih (badOne S i)).trans (badOne_blank S i)
theorem badS_snoc (S : ChipM) (L : List Int) (j : Nat) (hj : j < L.length) : badS S (L.take (j + 1)) = badOne (badS S (L.take j)) (L.getD j 0) := by
  have h1 : L.take (j + 1) = L.take j ++ [L.getD j 0] := by
    rw [List.take_add_one]; simp [List.getD, hj]
  rw [h1]
  exact List.foldl_append
theorem filled_size (s : Nat) (t : ByteArray) (h : 1 ≤ t.size) : (filledP s t).1.size = s ∧ (filledP s t).2.size = 32 := by
  have h1 := againB_size s t h
  constructor
  · show ((againB s t).extract 0 s).size = s
    rw [ByteArray.size_extract]; omega
  · show ((againB s t).extract s (s + 32)).size = 32
    rw [ByteArray.size_extract]; omega
theorem cell_lt {w : World} {b o : Nat} {v : Value} (h : w.cell? ⟨b, o, none⟩ = some v) : b < w.heap.size := by
  by_cases hb : b < w.heap.size
  · exact hb
  · rw [World.cell?] at h
    simp [Array.getElem?_eq_none (Nat.le_of_not_lt hb)] at h
/-- numbers that came in, place by place -/
theorem nums_in {w : World} {v : Value} {L : List Int} (h : NumsAt w .i64 v L) : ∃ (a : Option Addr) (cap : Nat), v = .slice a L.length cap ∧ ∀ i, i < L.length → ∃ b off, a = some ⟨b, off, none⟩ ∧ b < w.heap.size ∧ w.cell? ⟨b, off + i, none⟩ = some (.int .i64 (L.getD i 0)) := by
  rcases h with ⟨rfl, rfl⟩ | ⟨b, off, cap, rfl, -, -, -, h⟩ | ⟨a, cap, rfl, rfl⟩
  · exact ⟨none, 0, rfl, fun i hi => absurd hi (Nat.not_lt_zero i)⟩
  · exact ⟨_, cap, rfl, fun i hi => ⟨b, off, rfl, cell_lt (h i hi), h i hi⟩⟩
  · exact ⟨_, cap, rfl, fun i hi => absurd hi (Nat.not_lt_zero i)⟩
/-- a chip that is being made: the first m blocks have their pages -/
structure ChipW (w : World) (p q B m : Nat) (G : Nat → Nat) (S : ChipM) : Prop where
  head : w.heap[p]? = some (.cells (chipC q S).toArray 111 (0, 0))
  row : RwAt w q 122 6 (fun k b => if k < m then blkC (G k) b else rawC) blk0 S.L
  page : ∀ k, k < m → RwAt w (G k) 107 2 pgC pg0 (S.blk k).pages
  inj : ∀ i j, i < m → j < m → G i = G j → i = j
  base : B ≤ p ∧ B ≤ q ∧ ∀ k, k < m → B ≤ G k
theorem ChipW.below {w w' : World} {p q B m : Nat} {G : Nat → Nat} {S : ChipM} (h : ChipW w p q B m G S) (hb : Below w.heap.size w w') : ChipW w' p q B m G S :=
  ⟨(hb.block _ (heap_lt h.head)).trans h.head, h.row.below hb, fun k hk => (h.page k hk).below hb, h.inj, h.base⟩
theorem ChipW.drewN {w : World} {p q B m : Nat} {G : Nat → Nat} {S : ChipM} (h : ChipW w p q B m G S) (n : Nat) : ChipW (w.drewN n) p q B m G S :=
  ⟨h.head, h.row.kept rfl, fun k hk => (h.page k hk).kept rfl, h.inj, h.base⟩
theorem ChipW.cell {w : World} {p q B m : Nat} {G : Nat → Nat} {S : ChipM} (h : ChipW w p q B m G S) (j : Nat) : w.cell? ⟨p, j, none⟩ = (chipC q S)[j]? := by
  rw [cell_of_block h.head]; simp
theorem ChipW.raw {w : World} {p q B m : Nat} {G : Nat → Nat} {S : ChipM} (h : ChipW w p q B m G S) (hm : m < S.L.length) (j : Nat) (hj : j < 6) : w.cell? ⟨q, m * 6 + j, none⟩ = rawC[j]? := by
  have h1 := h.row.at m hm j hj
  rw [if_neg (by omega)] at h1
  exact h1
theorem ChipW.qp {w : World} {p q B m : Nat} {G : Nat → Nat} {S : ChipM} (h : ChipW w p q B m G S) : q ≠ p := rows_apart_head h.row h.head (by decide)
theorem ChipW.qs {w : World} {p q B m sb : Nat} {G : Nat → Nat} {S : ChipM} {c : Array Value} (h : ChipW w p q B m G S) (hX : w.heap[sb]? = some (.cells c 64 (0, 0))) : q ≠ sb := rows_apart_head h.row hX (by decide)
/-- the next block has its pages -/
theorem ChipW.step {w : World} {p q B m g : Nat} {G : Nat → Nat} {S : ChipM} (h : ChipW w p q B m G S) (hm : m < S.L.length) (hb : S.blk m = ⟨(S.blk m).pages, 0, 0, false, false, false⟩) (hg : RwAt w g 107 2 pgC pg0 (S.blk m).pages) (hB : B ≤ g) (hu : ∀ k, k < m → G k ≠ g) :
    ChipW (w.setCell ⟨q, m * 6, none⟩ (.slice (some ⟨g, 0, none⟩) (S.blk m).pages.length (S.blk m).pages.length)) p q B (m + 1) (fun k => if k = m then g else G k) S := by
  have hgq : g ≠ q := rows_apart hg h.row (by decide)
  refine ⟨?_, ?_, fun k hk => ?_, fun i j hi hj hij => ?_, h.base.1, h.base.2.1, fun k hk => ?_⟩
  · rw [block_setCell_other h.qp, h.head]
  · obtain ⟨cs, h1, h2, h3⟩ := h.row.ex
    refine ⟨_, block_setCell h1 _ _, by simp [h2], fun k hk j hj => ?_⟩
    by_cases hkm : k = m
    · subst hkm
      have h4 := h3 k hk j hj
      rw [if_neg (by omega)] at h4
      rw [if_pos (by omega), if_pos rfl]
      show _ = (blkC g (S.blk k))[j]?
      have hin : k * 6 < cs.size := by
        rw [h2]
        have : (k + 1) * 6 ≤ S.L.length * 6 := Nat.mul_le_mul_right 6 hk
        omega
      by_cases hj0 : j = 0
      · subst hj0
        rw [Nat.add_zero, Array.getElem?_setIfInBounds, if_pos rfl, if_pos hin]
        rfl
      · rw [Array.getElem?_setIfInBounds, if_neg (by omega), h4, hb]
        have hj6 : j = 1 ∨ j = 2 ∨ j = 3 ∨ j = 4 ∨ j = 5 := by omega
        rcases hj6 with rfl | rfl | rfl | rfl | rfl <;> rfl
    · have h4 := h3 k hk j hj
      rw [Array.getElem?_setIfInBounds, if_neg (by omega), h4, if_neg hkm]
      by_cases hkl : k < m
      · rw [if_pos hkl, if_pos (by omega)]
      · rw [if_neg hkl, if_neg (by omega)]
  · by_cases hkm : k = m
    · subst hkm
      rw [if_pos rfl]
      exact hg.other (Ne.symm hgq) _ _
    · rw [if_neg hkm]
      exact (h.page k (by omega)).other (Ne.symm (rows_apart (h.page k (by omega)) h.row (by decide))) _ _
  · by_cases h1 : i = m <;> by_cases h2 : j = m
    · omega
    · rw [if_pos h1, if_neg h2] at hij
      exact absurd hij.symm (hu j (by omega))
    · rw [if_neg h1, if_pos h2] at hij
      exact absurd hij (hu i (by omega))
    · rw [if_neg h1, if_neg h2] at hij
      exact h.inj i j (by omega) (by omega) hij
  · by_cases hkm : k = m
    · rw [if_pos hkm]; exact hB
    · rw [if_neg hkm]; exact h.base.2.2 k (by omega)
theorem ChipW.done {w : World} {p q B : Nat} {G : Nat → Nat} {S : ChipM} (h : ChipW w p q B S.L.length G S) (hl : ∀ k, k < S.L.length → (S.blk k).pages.length = S.pgs) (hf : S.L.length ≤ 256 ∧ S.pgs ≤ 64) : NandAt w p q B G S := by
  refine ⟨h.head, ?_, h.page, h.inj, h.base, hl, hf⟩
  obtain ⟨cs, h1, h2, h3⟩ := h.row.ex
  refine ⟨cs, h1, h2, fun k hk j hj => ?_⟩
  have h4 := h3 k hk j hj
  rw [if_pos hk] at h4
  exact h4
theorem ChipW.first {w : World} {p q B : Nat} (b k s : Nat) (hp : w.heap[p]? = some (.cells (chipC q (newS b k s)).toArray 111 (0, 0))) (hq : w.heap[q]? = some (.cells ((List.replicate b ()).flatMap fun _ => rawC).toArray 122 (0, 0))) (hB : B ≤ p ∧ B ≤ q) : ChipW w p q B 0 (fun _ => 0) (newS b k s) := by
  refine ⟨hp, ⟨_, hq, ?_, fun i hi j hj => ?_⟩, fun k hk => by omega, fun i j hi => by omega, hB.1, hB.2, fun k hk => by omega⟩
  · rw [List.size_toArray, flat_length (fun _ : Unit => rawC) 6 (fun _ => rfl), List.length_replicate, newS_len]
  · rw [if_neg (by omega), List.getElem?_toArray, flat_at (fun _ : Unit => rawC) 6 (fun _ => rfl) () _ i j (by rw [List.length_replicate, ← newS_len b k s]; exact hi) hj]

theorem new3 {w : World} {P Q B m b p s : Nat} {G : Nat → Nat} (h : ChipW w P Q B m G (newS b p s)) : w.cell? ⟨P, 3, none⟩ = some (.string (filledP s ffB).1) := h.cell 3
theorem new4 {w : World} {P Q B m b p s : Nat} {G : Nat → Nat} (h : ChipW w P Q B m G (newS b p s)) : w.cell? ⟨P, 4, none⟩ = some (.string (filledP s ffB).2) := h.cell 4
theorem new5 {w : World} {P Q B m b p s : Nat} {G : Nat → Nat} (h : ChipW w P Q B m G (newS b p s)) : w.cell? ⟨P, 5, none⟩ = some (.slice (some ⟨Q, 0, none⟩) b b) := by
  have h1 := h.cell 5
  unfold chipC at h1
  rw [newS_len] at h1
  exact h1
set_option maxRecDepth 100000 in
set_option maxHeartbeats 2000000 in
theorem new_go (b p s : Nat) (hR : rightS b p s = true) (bad : List Int) (v : Value) (w : World) (hv : NumsAt w .i64 v bad) (hlb : bad.length ≤ 1000000) :
    Calls Tryz.prog 19 #[.agg #[.int .i64 (b : Int), .int .i64 (p : Int), .int .i64 (s : Int)], v] w fun e w' => ∃ P Q G, e = .returned (.tuple #[.pointer (some ⟨P, 0, none⟩), .int .i64 0]) ∧ NandAt w' P Q w.heap.size G (badS (newS b p s) bad) ∧ Below w.heap.size w w' := by
  have HRB := hide (show 4 ≤ b ∧ b ≤ 256 ∧ 2 ≤ p ∧ p ≤ 64 ∧ 32 ≤ s ∧ s ≤ 1024 by
    unfold rightS at hR
    have := of_decide_eq_true hR
    omega)
  have HR := hide (fun W => right_any (b : Int) (p : Int) (s : Int) W)
  rw [hR] at HR
  have HF := hide (fun W => filled_any (b : Int) (p : Int) s HRB.out.2.2.2.2.2 ffB (by decide) (by decide) W)
  rw [show ffB = ⟨#[255]⟩ from rfl] at HF
  have HRP := hide (fun pb W hW => repeat_any (filledP s ffB) pb p (by have := HRB.out; omega) HRB.out.2.2.2.1 W hW)
  have HV := hide hv
  have hmk := fun W => run_make_rows (P := Tryz.prog) 108 122 (z := .agg #[.slice none 0 0, .int .i64 0, .int .i64 0, .bool false, .bool false, .bool false]) (B := 48) (k := 6) rawC Tryz.underlying108 (by kernel_rfl) rfl rfl (by decide) b (by have := HRB.out; omega) (by have := HRB.out; omega) W
  clear hR hv
  go_enter Tryz.func19, Tryz.ntmps19
  go_wp2_with fail
  refine (HR.out _).mono ?_
  rintro e w1 ⟨rfl, hb⟩
  have hal := (Below.refl w.heap.size w).alloc (Nat.le_refl _) (.cells #[.int .i64 (b : Int), .int .i64 (p : Int), .int .i64 (s : Int)] 64)
  have XS0 := hide ((hb.block w.heap.size (by simp)).trans (heap_new w (.cells #[.int .i64 (b : Int), .int .i64 (p : Int), .int .i64 (s : Int)] 64)))
  have BL0 := hide (hal.trans (hb.mono (by simp)))
  clear hb hal HR
  go_upto_region 3 with (fail)
  generalize hsb : w.heap.size = sb at XS0 ⊢
  go_cut [6] from 14 to 22 (fun s6 W => ∃ P Q, s6 = .pointer (some ⟨P, 0, none⟩) ∧ ChipW W P Q w.heap.size 0 (fun _ => 0) (newS b p s) ∧ W.heap[sb]? = some (.cells #[.int .i64 (b : Int), .int .i64 (p : Int), .int .i64 (s : Int)] 64 (0, 0)) ∧ Below w.heap.size w W)
  case first =>
    have XS0 := hide (show w1.drew.heap[sb]? = _ from XS0.out)
    have BL0 := hide (show Below w.heap.size w w1.drew from BL0.out.drew)
    refine wp_region_held_drew (S := (fun W => W.cell? ⟨sb, 0, none⟩ = some (.int .i64 (b : Int)) ∧ W.cell? ⟨sb, 1, none⟩ = some (.int .i64 (p : Int)) ∧ W.cell? ⟨sb, 2, none⟩ = some (.int .i64 (s : Int)))) (by kernel_rfl) (⟨cell_of_block XS0.out 0, cell_of_block XS0.out 1, cell_of_block XS0.out 2⟩) (fun hHeld => ?_)
    generalize w1.drew = v0 at *
    refine wpAnyH_take (i := 0) (oi := { dst := some 14, op := Op.load 64 (Operand.tmp 2), type := 64, pos := "nand.go:69", after := #[], guard := none }) (v := ?_) rfl (by kernel_rfl) (by kernel_rfl) (by kernel_rfl) (fun _ _ _ h => h) (Or.inl ⟨by kernel_rfl, ?_⟩) hHeld ?_
    rotate_left
    · (intro w hSw; (try dsimp only at hSw); go_simp); try with_reducible rfl
    try simp only [Act.put, List.setIfInBounds_toArray, List.set_cons_zero, List.set_cons_succ]
    refine wpAnyH_take (i := 1) (oi := { dst := some 15, op := Op.load 64 (Operand.tmp 2), type := 64, pos := "nand.go:69", after := #[], guard := none }) (v := ?_) rfl (by kernel_rfl) (by kernel_rfl) (by kernel_rfl) (fun _ _ _ h => h) (Or.inl ⟨by kernel_rfl, ?_⟩) hHeld ?_
    rotate_left
    · (intro w hSw; (try dsimp only at hSw); go_simp); try with_reducible rfl
    try simp only [Act.put, List.setIfInBounds_toArray, List.set_cons_zero, List.set_cons_succ]
    refine wpAnyH_take (i := 3) (oi := { dst := some 17, op := Op.fieldAddr 64 (Operand.tmp 2) 0, type := 0, pos := "nand.go:69", after := #[], guard := none }) (v := ?_) rfl (by kernel_rfl) (by kernel_rfl) (by kernel_rfl) (fun _ _ _ h => h) (Or.inl ⟨by kernel_rfl, ?_⟩) hHeld ?_
    rotate_left
    · (intro w hSw; (try dsimp only at hSw); go_simp); try with_reducible rfl
    try simp only [Act.put, List.setIfInBounds_toArray, List.set_cons_zero, List.set_cons_succ]
    refine wpAnyH_take (i := 4) (oi := { dst := some 18, op := Op.load 3 (Operand.tmp 17), type := 3, pos := "nand.go:69", after := #[{ on := 3, ground := Ground.data }], guard := none }) (v := ?_) rfl (by kernel_rfl) (by kernel_rfl) (by kernel_rfl) (fun _ _ _ h => h) (Or.inl ⟨by kernel_rfl, ?_⟩) hHeld ?_
    rotate_left
    · (intro w hSw; (try dsimp only at hSw); go_simp); try with_reducible rfl
    try simp only [Act.put, List.setIfInBounds_toArray, List.set_cons_zero, List.set_cons_succ]
    refine wpAnyH_ready (rs := [2, 5]) (by kernel_rfl) (by simp) (AllReadyH.cons (o := { dst := some 16, op := Op.call { callee := Callee.value (Operand.func 41), args := #[Operand.tmp 15, Operand.const (Value.string { data := #[255] })], argTypes := #[64, 9] }, type := 107, pos := "nand.go:69", after := #[{ on := 1, ground := Ground.data }], guard := none }) rfl (fun K hK => ?_) (AllReadyH.cons (o := { dst := some 19, op := Op.makeSlice 108 (Operand.tmp 18) (Operand.tmp 18), type := 108, pos := "nand.go:69", after := #[{ on := 4, ground := Ground.data }, { on := 4, ground := Ground.data }], guard := none }) rfl (fun K hK => ?_) AllReadyH.nil))
    · have hOld := hide hHeld
      clear hHeld
      go_simp
      refine (HF.out _).mono ?_
      rintro e v2 ⟨rfl, hb⟩
      have XS2 := hide ((hb.block _ (heap_lt XS0.out)).trans XS0.out)
      have BL2 := hide (BL0.out.trans (hb.mono BL0.out.size))
      clear hb
      (try go_wp2_with fail)
      refine hK.out _ _ (⟨cell_of_block XS2.out 0, cell_of_block XS2.out 1, cell_of_block XS2.out 2⟩) (fun hHeld => ?_)
      clear hK K hOld
      try simp only [Act.put, List.setIfInBounds_toArray, List.set_cons_zero, List.set_cons_succ]
      refine wpAnyH_ready (rs := [5]) (by kernel_rfl) (by simp) (AllReadyH.cons (o := { dst := some 19, op := Op.makeSlice 108 (Operand.tmp 18) (Operand.tmp 18), type := 108, pos := "nand.go:69", after := #[{ on := 4, ground := Ground.data }, { on := 4, ground := Ground.data }], guard := none }) rfl (fun K hK => ?_) AllReadyH.nil)
      have hOld := hide hHeld
      clear hHeld
      go_simp
      try simp only [hmk, Result.andThen]
      obtain ⟨ob, hob⟩ : ∃ ob, ob = Obj.cells ((List.replicate b ()).flatMap fun _ => rawC).toArray 122 := ⟨_, rfl⟩
      have hal := (Below.refl v2.heap.size v2).alloc (Nat.le_refl _) ob
      have XS5 := hide ((hal.block _ (heap_lt XS2.out)).trans XS2.out)
      have BL5 := hide (BL2.out.trans (hal.mono BL2.out.size))
      have RQ5 := hide (heap_new v2 ob)
      have HQB := hide (show w.heap.size ≤ v2.heap.size from BL2.out.size)
      clear hal
      try rw [← hob]
      generalize v2.alloc ob = v5 at *
      generalize v2.heap.size = Q at *
      rw [hob] at RQ5
      clear hob
      (try go_wp2_with fail)
      refine hK.out _ _ (⟨cell_of_block XS5.out 0, cell_of_block XS5.out 1, cell_of_block XS5.out 2⟩) (fun hHeld => ?_)
      clear hK K hOld
      try simp only [Act.put, List.setIfInBounds_toArray, List.set_cons_zero, List.set_cons_succ]
      refine wpAnyH_take (i := 6) (oi := { dst := some 20, op := Op.build 111 #[(0, Operand.tmp 14), (1, Operand.tmp 16), (2, Operand.tmp 19)], type := 111, pos := "nand.go:69", after := #[{ on := 0, ground := Ground.data }, { on := 2, ground := Ground.data }, { on := 5, ground := Ground.data }], guard := none }) (v := ?_) rfl (by kernel_rfl) (by kernel_rfl) (by kernel_rfl) (fun _ _ _ h => h) (Or.inl ⟨by kernel_rfl, ?_⟩) hHeld ?_
      rotate_left
      · (intro w hSw; (try dsimp only at hSw); go_simp); try with_reducible rfl
      try simp only [Act.put, List.setIfInBounds_toArray, List.set_cons_zero, List.set_cons_succ]
      refine wpAnyH_ready (rs := [7]) (by kernel_rfl) (by simp) (AllReadyH.cons (o := { dst := some 21, op := Op.box 111 (Operand.tmp 20), type := 23, pos := "nand.go:69", after := #[{ on := 6, ground := Ground.data }], guard := none }) rfl (fun K hK => ?_) AllReadyH.nil)
      have hOld := hide hHeld
      clear hHeld
      go_simp
      obtain ⟨oc, hoc⟩ : ∃ oc, oc = Obj.cells (chipC Q (newS b p s)).toArray 111 := ⟨_, rfl⟩
      have hcc : (chipC Q (newS b p s)).toArray = #[.int .i64 (b : Int), .int .i64 (p : Int), .int .i64 (s : Int), .string (filledP s ⟨#[255]⟩).1, .string (filledP s ⟨#[255]⟩).2, .slice (some ⟨Q, 0, none⟩) b b, .int .i64 0, .int .i64 0, .int .i64 0, .int .i64 0, .string ⟨#[]⟩, .bool false] := by
        unfold chipC; rw [newS_len]; rfl
      rw [hcc] at hoc
      have hal := (Below.refl v5.heap.size v5).alloc (Nat.le_refl _) oc
      have XS7 := hide ((hal.block _ (heap_lt XS5.out)).trans XS5.out)
      have BL7 := hide (BL5.out.trans (hal.mono BL5.out.size))
      have RQ7 := hide ((hal.block _ (heap_lt RQ5.out)).trans RQ5.out)
      have RP7 := hide (heap_new v5 oc)
      have HPB := hide (show w.heap.size ≤ v5.heap.size from BL5.out.size)
      clear hal
      try rw [← hoc]
      generalize v5.alloc oc = v7 at *
      generalize v5.heap.size = P at *
      rw [hoc, ← hcc] at RP7
      clear hoc hcc
      (try go_wp2_with fail)
      refine hK.out _ _ (⟨cell_of_block XS7.out 0, cell_of_block XS7.out 1, cell_of_block XS7.out 2⟩) (fun hHeld => ?_)
      clear hK K hOld
      try simp only [Act.put, List.setIfInBounds_toArray, List.set_cons_zero, List.set_cons_succ]
      refine wpAnyH_take (i := 8) (oi := { dst := some 6, op := Op.assign (Operand.tmp 21), type := 23, pos := "nand.go:69", after := #[{ on := 7, ground := Ground.data }, { on := 2, ground := Ground.chain }, { on := 0, ground := Ground.phase }, { on := 1, ground := Ground.phase }, { on := 2, ground := Ground.phase }, { on := 3, ground := Ground.phase }, { on := 4, ground := Ground.phase }, { on := 5, ground := Ground.phase }, { on := 6, ground := Ground.phase }, { on := 7, ground := Ground.phase }], guard := none }) (v := ?_) rfl (by kernel_rfl) (by kernel_rfl) (by kernel_rfl) (fun _ _ _ h => h) (Or.inl ⟨by kernel_rfl, ?_⟩) hHeld ?_
      rotate_left
      · (intro w hSw; (try dsimp only at hSw); go_simp); try with_reducible rfl
      try simp only [Act.put, List.setIfInBounds_toArray, List.set_cons_zero, List.set_cons_succ]
      refine wpAnyH_done (by kernel_rfl) ?_ _
      clear hHeld
      go_wp2_with fail
      go_meet
      exact ⟨P, Q, rfl, ChipW.first b p s RP7.out RQ7.out ⟨HPB.out, HQB.out⟩, XS7.out, BL7.out⟩
    · have hOld := hide hHeld
      clear hHeld
      go_simp
      try simp only [hmk, Result.andThen]
      obtain ⟨ob, hob⟩ : ∃ ob, ob = Obj.cells ((List.replicate b ()).flatMap fun _ => rawC).toArray 122 := ⟨_, rfl⟩
      have hal := (Below.refl v0.heap.size v0).alloc (Nat.le_refl _) ob
      have XS5 := hide ((hal.block _ (heap_lt XS0.out)).trans XS0.out)
      have BL5 := hide (BL0.out.trans (hal.mono BL0.out.size))
      have RQ5 := hide (heap_new v0 ob)
      have HQB := hide (show w.heap.size ≤ v0.heap.size from BL0.out.size)
      clear hal
      try rw [← hob]
      generalize v0.alloc ob = v5 at *
      generalize v0.heap.size = Q at *
      rw [hob] at RQ5
      clear hob
      (try go_wp2_with fail)
      refine hK.out _ _ (⟨cell_of_block XS5.out 0, cell_of_block XS5.out 1, cell_of_block XS5.out 2⟩) (fun hHeld => ?_)
      clear hK K hOld
      try simp only [Act.put, List.setIfInBounds_toArray, List.set_cons_zero, List.set_cons_succ]
      refine wpAnyH_ready (rs := [2]) (by kernel_rfl) (by simp) (AllReadyH.cons (o := { dst := some 16, op := Op.call { callee := Callee.value (Operand.func 41), args := #[Operand.tmp 15, Operand.const (Value.string { data := #[255] })], argTypes := #[64, 9] }, type := 107, pos := "nand.go:69", after := #[{ on := 1, ground := Ground.data }], guard := none }) rfl (fun K hK => ?_) AllReadyH.nil)
      have hOld := hide hHeld
      clear hHeld
      go_simp
      refine (HF.out _).mono ?_
      rintro e v2 ⟨rfl, hb⟩
      have XS2 := hide ((hb.block _ (heap_lt XS5.out)).trans XS5.out)
      have BL2 := hide (BL5.out.trans (hb.mono BL5.out.size))
      have RQ2 := hide ((hb.block _ (heap_lt RQ5.out)).trans RQ5.out)
      clear hb
      (try go_wp2_with fail)
      refine hK.out _ _ (⟨cell_of_block XS2.out 0, cell_of_block XS2.out 1, cell_of_block XS2.out 2⟩) (fun hHeld => ?_)
      clear hK K hOld
      try simp only [Act.put, List.setIfInBounds_toArray, List.set_cons_zero, List.set_cons_succ]
      refine wpAnyH_take (i := 6) (oi := { dst := some 20, op := Op.build 111 #[(0, Operand.tmp 14), (1, Operand.tmp 16), (2, Operand.tmp 19)], type := 111, pos := "nand.go:69", after := #[{ on := 0, ground := Ground.data }, { on := 2, ground := Ground.data }, { on := 5, ground := Ground.data }], guard := none }) (v := ?_) rfl (by kernel_rfl) (by kernel_rfl) (by kernel_rfl) (fun _ _ _ h => h) (Or.inl ⟨by kernel_rfl, ?_⟩) hHeld ?_
      rotate_left
      · (intro w hSw; (try dsimp only at hSw); go_simp); try with_reducible rfl
      try simp only [Act.put, List.setIfInBounds_toArray, List.set_cons_zero, List.set_cons_succ]
      refine wpAnyH_ready (rs := [7]) (by kernel_rfl) (by simp) (AllReadyH.cons (o := { dst := some 21, op := Op.box 111 (Operand.tmp 20), type := 23, pos := "nand.go:69", after := #[{ on := 6, ground := Ground.data }], guard := none }) rfl (fun K hK => ?_) AllReadyH.nil)
      have hOld := hide hHeld
      clear hHeld
      go_simp
      obtain ⟨oc, hoc⟩ : ∃ oc, oc = Obj.cells (chipC Q (newS b p s)).toArray 111 := ⟨_, rfl⟩
      have hcc : (chipC Q (newS b p s)).toArray = #[.int .i64 (b : Int), .int .i64 (p : Int), .int .i64 (s : Int), .string (filledP s ⟨#[255]⟩).1, .string (filledP s ⟨#[255]⟩).2, .slice (some ⟨Q, 0, none⟩) b b, .int .i64 0, .int .i64 0, .int .i64 0, .int .i64 0, .string ⟨#[]⟩, .bool false] := by
        unfold chipC; rw [newS_len]; rfl
      rw [hcc] at hoc
      have hal := (Below.refl v2.heap.size v2).alloc (Nat.le_refl _) oc
      have XS7 := hide ((hal.block _ (heap_lt XS2.out)).trans XS2.out)
      have BL7 := hide (BL2.out.trans (hal.mono BL2.out.size))
      have RQ7 := hide ((hal.block _ (heap_lt RQ2.out)).trans RQ2.out)
      have RP7 := hide (heap_new v2 oc)
      have HPB := hide (show w.heap.size ≤ v2.heap.size from BL2.out.size)
      clear hal
      try rw [← hoc]
      generalize v2.alloc oc = v7 at *
      generalize v2.heap.size = P at *
      rw [hoc, ← hcc] at RP7
      clear hoc hcc
      (try go_wp2_with fail)
      refine hK.out _ _ (⟨cell_of_block XS7.out 0, cell_of_block XS7.out 1, cell_of_block XS7.out 2⟩) (fun hHeld => ?_)
      clear hK K hOld
      try simp only [Act.put, List.setIfInBounds_toArray, List.set_cons_zero, List.set_cons_succ]
      refine wpAnyH_take (i := 8) (oi := { dst := some 6, op := Op.assign (Operand.tmp 21), type := 23, pos := "nand.go:69", after := #[{ on := 7, ground := Ground.data }, { on := 2, ground := Ground.chain }, { on := 0, ground := Ground.phase }, { on := 1, ground := Ground.phase }, { on := 2, ground := Ground.phase }, { on := 3, ground := Ground.phase }, { on := 4, ground := Ground.phase }, { on := 5, ground := Ground.phase }, { on := 6, ground := Ground.phase }, { on := 7, ground := Ground.phase }], guard := none }) (v := ?_) rfl (by kernel_rfl) (by kernel_rfl) (by kernel_rfl) (fun _ _ _ h => h) (Or.inl ⟨by kernel_rfl, ?_⟩) hHeld ?_
      rotate_left
      · (intro w hSw; (try dsimp only at hSw); go_simp); try with_reducible rfl
      try simp only [Act.put, List.setIfInBounds_toArray, List.set_cons_zero, List.set_cons_succ]
      refine wpAnyH_done (by kernel_rfl) ?_ _
      clear hHeld
      go_wp2_with fail
      go_meet
      exact ⟨P, Q, rfl, ChipW.first b p s RP7.out RQ7.out ⟨HPB.out, HQB.out⟩, XS7.out, BL7.out⟩
  case rest =>
    obtain ⟨P, Q, rfl, hcw, hxs, hbl⟩ := hcut
    have CWA := hide hcw
    have XSA := hide hxs
    have BLA := hide hbl
    have c5 := new5 CWA.out
    clear hcw hxs hbl XS0 BL0 hmk
    go_wp2_with fail
    clear c5
    go_loopw [27] (fun z W => ∃ (m : Nat) (G : Nat → Nat), m ≤ b ∧ z = .int .i64 m ∧ ChipW W P Q w.heap.size m G (newS b p s) ∧ W.heap[sb]? = some (.cells #[.int .i64 (b : Int), .int .i64 (p : Int), .int .i64 (s : Int)] 64 (0, 0)) ∧ Below w.heap.size w W) (fun z _ => b - (intOf z).toNat)
    case atStart => exact ⟨0, _, by omega, rfl, CWA.out, XSA.out, BLA.out⟩
    case round =>
      obtain ⟨m, G, hm, rfl, hcw, hxs, hbl⟩ := hrel
      have CW0 := hide hcw
      have XS0 := hide hxs
      have BL0 := hide hbl
      clear hcw hxs hbl
      by_cases hlt : m < b
      · have hlt2 : (m : Int) < (b : Int) := by omega
        have hb256 : b ≤ 256 := HRB.out.2.1
        go_upto_region 7 with (fail)
        have XS0 := hide (show wr.drew.heap[sb]? = _ from XS0.out)
        have CW0 := hide (show ChipW wr.drew P Q w.heap.size m G (newS b p s) from CW0.out.drewN 1)
        have BL0 := hide (show Below w.heap.size w wr.drew from BL0.out.drew)
        refine wp_region_held_drew (S := (fun W => W.cell? ⟨sb, 1, none⟩ = some (.int .i64 (p : Int)) ∧ W.cell? ⟨P, 3, none⟩ = some (.string (filledP s ffB).1) ∧ W.cell? ⟨P, 4, none⟩ = some (.string (filledP s ffB).2) ∧ W.cell? ⟨P, 5, none⟩ = some (.slice (some ⟨Q, 0, none⟩) b b))) (by kernel_rfl) (⟨cell_of_block XS0.out 1, new3 CW0.out, new4 CW0.out, new5 CW0.out⟩) (fun hHeld => ?_)
        generalize wr.drew = v0 at *
        refine wpAnyH_take (i := 0) (oi := { dst := some 30, op := Op.move (Operand.tmp 6), type := 23, pos := "nand.go:71", after := #[], guard := none }) (v := ?_) rfl (by kernel_rfl) (by kernel_rfl) (by kernel_rfl) (fun _ _ _ h => h) (Or.inl ⟨by kernel_rfl, ?_⟩) hHeld ?_
        rotate_left
        · (intro w hSw; (try dsimp only at hSw); go_simp); try with_reducible rfl
        try simp only [Act.put, List.setIfInBounds_toArray, List.set_cons_zero, List.set_cons_succ]
        refine wpAnyH_take (i := 1) (oi := { dst := some 31, op := Op.nilCheck (Operand.tmp 30), type := 0, pos := "nand.go:71", after := #[{ on := 0, ground := Ground.data }], guard := none }) (v := ?_) rfl (by kernel_rfl) (by kernel_rfl) (by kernel_rfl) (fun _ _ _ h => h) (Or.inl ⟨by kernel_rfl, ?_⟩) hHeld ?_
        rotate_left
        · (intro w hSw; (try dsimp only at hSw); go_simp); try with_reducible rfl
        try simp only [Act.put, List.setIfInBounds_toArray, List.set_cons_zero, List.set_cons_succ]
        refine wpAnyH_take (i := 2) (oi := { dst := some 32, op := Op.fieldAddr 111 (Operand.tmp 31) 2, type := 0, pos := "nand.go:71", after := #[{ on := 1, ground := Ground.data }], guard := none }) (v := ?_) rfl (by kernel_rfl) (by kernel_rfl) (by kernel_rfl) (fun _ _ _ h => h) (Or.inl ⟨by kernel_rfl, ?_⟩) hHeld ?_
        rotate_left
        · (intro w hSw; (try dsimp only at hSw); go_simp); try with_reducible rfl
        try simp only [Act.put, List.setIfInBounds_toArray, List.set_cons_zero, List.set_cons_succ]
        refine wpAnyH_take (i := 3) (oi := { dst := some 33, op := Op.load 108 (Operand.tmp 32), type := 108, pos := "nand.go:71", after := #[{ on := 2, ground := Ground.data }], guard := none }) (v := ?_) rfl (by kernel_rfl) (by kernel_rfl) (by kernel_rfl) (fun _ _ _ h => h) (Or.inl ⟨by kernel_rfl, ?_⟩) hHeld ?_
        rotate_left
        · (intro w hSw; (try dsimp only at hSw); go_simp); try with_reducible rfl
        try simp only [Act.put, List.setIfInBounds_toArray, List.set_cons_zero, List.set_cons_succ]
        refine wpAnyH_take (i := 4) (oi := { dst := some 34, op := Op.move (Operand.tmp 7), type := 3, pos := "nand.go:71", after := #[], guard := none }) (v := ?_) rfl (by kernel_rfl) (by kernel_rfl) (by kernel_rfl) (fun _ _ _ h => h) (Or.inl ⟨by kernel_rfl, ?_⟩) hHeld ?_
        rotate_left
        · (intro w hSw; (try dsimp only at hSw); go_simp); try with_reducible rfl
        try simp only [Act.put, List.setIfInBounds_toArray, List.set_cons_zero, List.set_cons_succ]
        refine wpAnyH_take (i := 5) (oi := { dst := some 35, op := Op.move (Operand.tmp 6), type := 23, pos := "nand.go:71", after := #[], guard := none }) (v := ?_) rfl (by kernel_rfl) (by kernel_rfl) (by kernel_rfl) (fun _ _ _ h => h) (Or.inl ⟨by kernel_rfl, ?_⟩) hHeld ?_
        rotate_left
        · (intro w hSw; (try dsimp only at hSw); go_simp); try with_reducible rfl
        try simp only [Act.put, List.setIfInBounds_toArray, List.set_cons_zero, List.set_cons_succ]
        refine wpAnyH_take (i := 6) (oi := { dst := some 36, op := Op.nilCheck (Operand.tmp 35), type := 0, pos := "nand.go:71", after := #[{ on := 5, ground := Ground.data }], guard := none }) (v := ?_) rfl (by kernel_rfl) (by kernel_rfl) (by kernel_rfl) (fun _ _ _ h => h) (Or.inl ⟨by kernel_rfl, ?_⟩) hHeld ?_
        rotate_left
        · (intro w hSw; (try dsimp only at hSw); go_simp); try with_reducible rfl
        try simp only [Act.put, List.setIfInBounds_toArray, List.set_cons_zero, List.set_cons_succ]
        refine wpAnyH_take (i := 7) (oi := { dst := some 37, op := Op.fieldAddr 111 (Operand.tmp 36) 1, type := 0, pos := "nand.go:71", after := #[{ on := 6, ground := Ground.data }], guard := none }) (v := ?_) rfl (by kernel_rfl) (by kernel_rfl) (by kernel_rfl) (fun _ _ _ h => h) (Or.inl ⟨by kernel_rfl, ?_⟩) hHeld ?_
        rotate_left
        · (intro w hSw; (try dsimp only at hSw); go_simp); try with_reducible rfl
        try simp only [Act.put, List.setIfInBounds_toArray, List.set_cons_zero, List.set_cons_succ]
        refine wpAnyH_take (i := 8) (oi := { dst := some 38, op := Op.load 107 (Operand.tmp 37), type := 107, pos := "nand.go:71", after := #[{ on := 7, ground := Ground.data }], guard := none }) (v := ?_) rfl (by kernel_rfl) (by kernel_rfl) (by kernel_rfl) (fun _ _ _ h => h) (Or.inl ⟨by kernel_rfl, ?_⟩) hHeld ?_
        rotate_left
        · (intro w hSw; (try dsimp only at hSw); go_simp); try with_reducible rfl
        try simp only [Act.put, List.setIfInBounds_toArray, List.set_cons_zero, List.set_cons_succ]
        refine wpAnyH_take (i := 10) (oi := { dst := some 40, op := Op.fieldAddr 64 (Operand.tmp 2) 1, type := 0, pos := "nand.go:71", after := #[], guard := none }) (v := ?_) rfl (by kernel_rfl) (by kernel_rfl) (by kernel_rfl) (fun _ _ _ h => h) (Or.inl ⟨by kernel_rfl, ?_⟩) hHeld ?_
        rotate_left
        · (intro w hSw; (try dsimp only at hSw); go_simp); try with_reducible rfl
        try simp only [Act.put, List.setIfInBounds_toArray, List.set_cons_zero, List.set_cons_succ]
        refine wpAnyH_take (i := 11) (oi := { dst := some 41, op := Op.load 3 (Operand.tmp 40), type := 3, pos := "nand.go:71", after := #[{ on := 10, ground := Ground.data }], guard := none }) (v := ?_) rfl (by kernel_rfl) (by kernel_rfl) (by kernel_rfl) (fun _ _ _ h => h) (Or.inl ⟨by kernel_rfl, ?_⟩) hHeld ?_
        rotate_left
        · (intro w hSw; (try dsimp only at hSw); go_simp); try with_reducible rfl
        try simp only [Act.put, List.setIfInBounds_toArray, List.set_cons_zero, List.set_cons_succ]
        refine wpAnyH_ready (rs := [9]) (by kernel_rfl) (by simp) (AllReadyH.cons (o := { dst := some 39, op := Op.buildSlice 119 1 #[(0, Operand.tmp 38)], type := 119, pos := "nand.go:71", after := #[{ on := 8, ground := Ground.data }], guard := none }) rfl (fun K hK => ?_) AllReadyH.nil)
        have hOld := hide hHeld
        clear hHeld
        go_simp
        obtain ⟨ob, hob⟩ : ∃ ob, ob = Obj.cells #[.string (filledP s ffB).1, .string (filledP s ffB).2] 107 := ⟨_, rfl⟩
        rw [← hob]
        have hal := (Below.refl v0.heap.size v0).alloc (Nat.le_refl _) ob
        have XS9 := hide ((hal.block _ (heap_lt XS0.out)).trans XS0.out)
        have CW9 := hide (CW0.out.below hal)
        have BL9 := hide (BL0.out.trans (hal.mono BL0.out.size))
        have PB9 := hide (heap_new v0 ob)
        clear hal
        generalize v0.alloc ob = v9 at *
        generalize v0.heap.size = pb at *
        rw [hob] at PB9
        clear hob
        (try go_wp2_with fail)
        refine hK.out _ _ (⟨cell_of_block XS9.out 1, new3 CW9.out, new4 CW9.out, new5 CW9.out⟩) (fun hHeld => ?_)
        clear hK K hOld
        try simp only [Act.put, List.setIfInBounds_toArray, List.set_cons_zero, List.set_cons_succ]
        refine wpAnyH_ready (rs := [12]) (by kernel_rfl) (by simp) (AllReadyH.cons (o := { dst := some 42, op := Op.call { callee := Callee.value (Operand.func 42), args := #[Operand.tmp 39, Operand.tmp 41], argTypes := #[119, 3] }, type := 119, pos := "nand.go:71", after := #[{ on := 9, ground := Ground.data }, { on := 11, ground := Ground.data }], guard := none }) rfl (fun K hK => ?_) AllReadyH.nil)
        have hOld := hide hHeld
        clear hHeld
        go_simp
        refine (HRP.out pb v9 PB9.out).mono ?_
        rintro e v12 ⟨g, rfl, hg1, hg2, hb⟩
        have XS12 := hide ((hb.block _ (heap_lt XS9.out)).trans XS9.out)
        have CW12 := hide (CW9.out.below hb)
        have BL12 := hide (BL9.out.trans (hb.mono BL9.out.size))
        have RG12 := hide hg2
        have HGN := hide (show ∀ k, k < m → G k ≠ g from fun k hk e => by
          have h1 := (CW9.out.page k hk).lt
          omega)
        have HGB := hide (show w.heap.size ≤ g from Nat.le_trans BL9.out.size hg1)
        clear hb hg1 hg2
        have d0 : v12.cell? ⟨Q, m * 6, none⟩ = some (.slice none 0 0) := CW12.out.raw (by rw [newS_len]; exact hlt) 0 (by decide)
        have f0 := CW12.out.row.free (m * 6)
        (try go_wp2_with fail)
        refine hK.out _ _ (⟨cell_of_block XS12.out 1, new3 CW12.out, new4 CW12.out, new5 CW12.out⟩) (fun hHeld => ?_)
        clear hK K hOld
        try simp only [Act.put, List.setIfInBounds_toArray, List.set_cons_zero, List.set_cons_succ]
        refine wpAnyH_take (i := 13) (oi := { dst := some 43, op := Op.indexAddr 108 (Operand.tmp 33) (Operand.tmp 34), type := 0, pos := "nand.go:71", after := #[{ on := 3, ground := Ground.data }, { on := 4, ground := Ground.data }, { on := 0, ground := Ground.phase }, { on := 1, ground := Ground.phase }, { on := 2, ground := Ground.phase }, { on := 3, ground := Ground.phase }, { on := 4, ground := Ground.phase }, { on := 5, ground := Ground.phase }, { on := 6, ground := Ground.phase }, { on := 7, ground := Ground.phase }, { on := 8, ground := Ground.phase }, { on := 9, ground := Ground.phase }, { on := 10, ground := Ground.phase }, { on := 11, ground := Ground.phase }, { on := 12, ground := Ground.phase }], guard := none }) (v := ?_) rfl (by kernel_rfl) (by kernel_rfl) (by kernel_rfl) (fun _ _ _ h => h) (Or.inl ⟨by kernel_rfl, ?_⟩) hHeld ?_
        rotate_left
        · (intro w hSw; (try dsimp only at hSw); go_simp); try with_reducible rfl
        try simp only [Act.put, List.setIfInBounds_toArray, List.set_cons_zero, List.set_cons_succ]
        refine wpAnyH_take (i := 14) (oi := { dst := some 44, op := Op.fieldAddr 122 (Operand.tmp 43) 0, type := 0, pos := "nand.go:71", after := #[{ on := 13, ground := Ground.data }, { on := 0, ground := Ground.phase }, { on := 1, ground := Ground.phase }, { on := 2, ground := Ground.phase }, { on := 3, ground := Ground.phase }, { on := 4, ground := Ground.phase }, { on := 5, ground := Ground.phase }, { on := 6, ground := Ground.phase }, { on := 7, ground := Ground.phase }, { on := 8, ground := Ground.phase }, { on := 9, ground := Ground.phase }, { on := 10, ground := Ground.phase }, { on := 11, ground := Ground.phase }, { on := 12, ground := Ground.phase }], guard := none }) (v := ?_) rfl (by kernel_rfl) (by kernel_rfl) (by kernel_rfl) (fun _ _ _ h => h) (Or.inl ⟨by kernel_rfl, ?_⟩) hHeld ?_
        rotate_left
        · (intro w hSw; (try dsimp only at hSw); go_simp); try with_reducible rfl
        try simp only [Act.put, List.setIfInBounds_toArray, List.set_cons_zero, List.set_cons_succ]
        refine wpAnyH_ready (rs := [15]) (by kernel_rfl) (by simp) (AllReadyH.cons (o := { dst := none, op := Op.store 119 (Operand.tmp 44) (Operand.tmp 42), type := 0, pos := "nand.go:71", after := #[{ on := 14, ground := Ground.data }, { on := 12, ground := Ground.data }, { on := 12, ground := Ground.chain }, { on := 0, ground := Ground.phase }, { on := 1, ground := Ground.phase }, { on := 2, ground := Ground.phase }, { on := 3, ground := Ground.phase }, { on := 4, ground := Ground.phase }, { on := 5, ground := Ground.phase }, { on := 6, ground := Ground.phase }, { on := 7, ground := Ground.phase }, { on := 8, ground := Ground.phase }, { on := 9, ground := Ground.phase }, { on := 10, ground := Ground.phase }, { on := 11, ground := Ground.phase }, { on := 12, ground := Ground.phase }], guard := none }) rfl (fun K hK => ?_) AllReadyH.nil)
        have hOld := hide hHeld
        clear hHeld
        go_simp
        have hst := CW12.out.step (by rw [newS_len]; exact hlt) (by rw [newS_blk b p s m hlt]) (by rw [newS_blk b p s m hlt]; exact RG12.out) HGB.out HGN.out
        rw [newS_blk b p s m hlt] at hst
        simp only [List.length_replicate] at hst
        have CW15 := hide hst
        have XS15 := hide ((block_setCell_other (CW12.out.qs XS12.out) (m * 6) (.slice (some ⟨g, 0, none⟩) p p)).trans XS12.out)
        have BL15 := hide (show Below w.heap.size w (v12.setCell ⟨Q, m * 6, none⟩ (.slice (some ⟨g, 0, none⟩) p p)) from BL12.out.setCell CW12.out.base.2.1 _)
        clear hst
        generalize v12.setCell ⟨Q, m * 6, none⟩ (.slice (some ⟨g, 0, none⟩) p p) = v15 at *
        (try go_wp2_with fail)
        refine hK.out _ _ (⟨cell_of_block XS15.out 1, new3 CW15.out, new4 CW15.out, new5 CW15.out⟩) (fun hHeld => ?_)
        clear hK K hOld
        try simp only [Act.put, List.setIfInBounds_toArray, List.set_cons_zero, List.set_cons_succ]
        refine wpAnyH_done (by kernel_rfl) ?_ _
        clear hHeld
        go_wp2_with fail
        go_roundw
        case rel => exact ⟨m + 1, _, by omega, by go_num, CW15.out, XS15.out, BL15.out⟩
        case measure => simp [intOf]; omega
      · obtain rfl : m = b := by omega
        have NA := hide (ChipW.done (by rw [newS_len]; exact CW0.out) (fun k hk => by rw [newS_len] at hk; rw [newS_blk m p s k hk]; exact List.length_replicate) ⟨by rw [newS_len]; exact HRB.out.2.1, HRB.out.2.2.2.1⟩)
        clear CW0 XS0 CWA XSA HF HRP
        obtain ⟨a, cap, rfl, hin⟩ := nums_in HV.out
        have HI := hide hin
        clear hin HV
        go_wp2_with fail
        go_loopw [48] (fun z W => ∃ (j : Nat), j ≤ bad.length ∧ z = .int .i64 j ∧ NandAt W P Q w.heap.size G (badS (newS m p s) (bad.take j)) ∧ Below w.heap.size w W) (fun z _ => bad.length - (intOf z).toNat)
        case atStart => exact ⟨0, by omega, rfl, NA.out, BL0.out⟩
        case round =>
          obtain ⟨j, hj, rfl, hn, hbl⟩ := hrel
          have NJ := hide hn
          have BJ := hide hbl
          clear hn hbl
          by_cases hlt : j < bad.length
          · have hlt2 : (j : Int) < (bad.length : Int) := by omega
            obtain ⟨bb, off, rfl, hbb, hcell⟩ := HI.out j hlt
            have hcj : wr.cell? ⟨bb, off + j, none⟩ = some (.int .i64 (bad.getD j 0)) := cell_keep hcell hbb BJ.out
            have HSN := hide (badS_snoc (newS m p s) bad j hlt)
            clear hcell
            generalize bad.getD j 0 = x at *
            have HSL := hide (show (badS (newS m p s) (bad.take j)).L.length = m by rw [badS_len, newS_len])
            have HSP := hide (show (badS (newS m p s) (bad.take j)).pgs = p by rw [badS_pgs]; rfl)
            have HSB := hide (show (badS (newS m p s) (bad.take j)).blank = filledP s ffB by rw [badS_blank]; rfl)
            generalize badS (newS m p s) (bad.take j) = SJ at *
            by_cases hx : 0 ≤ x ∧ x < m
            · obtain ⟨k, rfl⟩ : ∃ k : Nat, (k : Int) = x := ⟨x.toNat, by omega⟩
              have hk : k < SJ.L.length := by rw [HSL.out]; omega
              have HA := hide (fun W hW => at_yes P Q w.heap.size G SJ k hk W hW)
              have HE := hide (show badS (newS m p s) (bad.take (j + 1)) = millS SJ k by rw [HSN.out]; unfold badOne; rw [if_pos ⟨hx.1, by rw [HSL.out]; exact hx.2⟩, Int.toNat_natCast])
              clear hx HSN
              go_wp2_with fail
              refine (HA.out _ NJ.out).mono ?_
              rintro e w2 ⟨rfl, rfl⟩
              have d3 : wr.cell? ⟨Q, k * 6 + 3, none⟩ = some (.bool (SJ.blk k).mill) := NJ.out.slot k hk 3 (by decide)
              have f3 := NJ.out.row.free (k * 6 + 3)
              go_upto_region 15 with (fail)
              have N2 := hide (NJ.out.setBlk k hk 3 (by decide) (.bool true) { SJ.blk k with mill := true } rfl rfl)
              have HBP := hide (show w.heap.size ≤ Q from NJ.out.base.2.1)
              have B2 := hide (show Below w.heap.size w (wr.setCell ⟨Q, k * 6 + 3, none⟩ (.bool true)) from BJ.out.setCell HBP.out _)
              generalize wr.setCell ⟨Q, k * 6 + 3, none⟩ (.bool true) = w3 at *
              obtain ⟨S3, hS3⟩ : ∃ S3, S3 = SJ.put k { SJ.blk k with mill := true } := ⟨_, rfl⟩
              have hk3 : k < S3.L.length := by rw [hS3, put_length]; exact hk
              have hb3 : S3.blk k = { SJ.blk k with mill := true } := by rw [hS3, blk_put_self SJ k _ hk]
              have hp3 : 0 < S3.pgs := by rw [hS3]; show 0 < SJ.pgs; rw [HSP.out]; have := HRB.out; omega
              have hl3 : (S3.blk k).pages.length = p := by rw [hb3]; show (SJ.blk k).pages.length = p; rw [NJ.out.len k hk, HSP.out]
              rw [← hS3] at N2
              have d0 : w3.cell? ⟨Q, k * 6, none⟩ = some (.slice (some ⟨G k, 0, none⟩) p p) := by
                refine (show _ = _ from N2.out.slot k hk3 0 (by decide)).trans ?_
                show some (Value.slice _ (S3.blk k).pages.length (S3.blk k).pages.length) = _
                rw [hl3]
              have hbl : S3.blank = filledP s ffB := by rw [hS3]; exact HSB.out
              have c4 : w3.cell? ⟨P, 4, none⟩ = some (.string (filledP s ffB).2) := by rw [← hbl]; exact N2.out.cell 4
              have e1 := N2.out.leaf k hk3 0 hp3 1 (by decide)
              simp only [pgC, List.getElem?_cons_zero, List.getElem?_cons_succ, Nat.zero_mul, Nat.zero_add] at e1
              have g1 := (N2.out.page k hk3).free 1
              have hz2 : (filledP s ffB).2.size = 32 := (filled_size s ffB (by decide)).2
              obtain ⟨z, hz⟩ : ∃ z, z = (filledP s ffB).2 := ⟨_, rfl⟩
              rw [← hz] at c4 hz2
              obtain ⟨u, hu⟩ : ∃ u, u = ((S3.blk k).pages.getD 0 pg0).2 := ⟨_, rfl⟩
              rw [← hu] at e1
              have N4 := N2.out.setPage k hk3 0 hp3 1 (by decide) (.string (zeroB ++ z.extract 1 z.size)) (((S3.blk k).pages.getD 0 pg0).1, zeroB ++ z.extract 1 z.size) rfl
              have hE4 : S3.put k { S3.blk k with pages := (S3.blk k).pages.set 0 (((S3.blk k).pages.getD 0 pg0).1, zeroB ++ z.extract 1 z.size) } = millS SJ k := by
                unfold millS millB
                rw [hb3, hS3, put_put, HSB.out, hz]
              rw [hE4, ← HE.out] at N4
              have HN4 := hide N4
              have B4 := hide (show Below w.heap.size w (w3.setCell ⟨G k, 1, none⟩ (.string (zeroB ++ z.extract 1 z.size))) from B2.out.setCell (N2.out.base.2.2 k hk3) _)
              have hzs : (z.extract 1 z.size).size = 31 := by rw [ByteArray.size_extract, hz2]; rfl
              have hq1 : (1 : Int) ≤ (z.size : Int) := by omega
              have hq2 : ¬ 9223372036854775807 < 1 + (z.size - 1) := by omega
              have hp1 : 0 < p := by have := HRB.out; omega
              clear hE4 hz hu hz2 hzs hS3 hb3 hbl hk3 hp3 hl3 N4 N2 B2 hk d3 f3
              go_still_tail 13, (by kernel_rfl)
              change wpList _ _ _ _ _ w3.drew
              go_wp2_with fail
              go_roundw
              case rel => exact ⟨j + 1, by omega, by go_num, HN4.out.drew, B4.out.drew⟩
              case measure => simp [intOf]; omega
            · have HE := hide (show badS (newS m p s) (bad.take (j + 1)) = SJ by rw [HSN.out]; unfold badOne; rw [if_neg (fun h => hx ⟨h.1, by have := h.2; rw [HSL.out] at this; exact this⟩)])
              have HA := hide (at_no P Q w.heap.size G SJ x (by rw [HSL.out]; omega) wr NJ.out)
              clear hx HSN
              go_wp2_with fail
              refine HA.out.mono ?_
              rintro e w2 ⟨rfl, rfl⟩
              go_wp2_with fail
              go_roundw
              case rel => exact ⟨j + 1, by omega, by go_num, by rw [HE.out]; exact NJ.out, BJ.out⟩
              case measure => simp [intOf]; omega
          · obtain rfl : j = bad.length := by omega
            have N9 := NJ.out
            rw [List.take_length] at N9
            have NN := hide N9
            clear N9 NJ
            go_wp2_with fail
            go_ret2
            exact ⟨P, Q, G, rfl, NN.out, BJ.out⟩
end Go.Proofs.YtjfmkfhjbdiojaaGreat

namespace Go.Proofs.YtjfmkfhjbdiojaaGreat
set_option linter.unusedSimpArgs false
set_option linter.unusedVariables false
open Go.RowKit Go.WideShapes Go.ChangeShapes Go.ChangeAt Go.Deep

def wk1 : ChipM := badS (newS 4 2 32) [3]
def wkA : ByteArray := fullB ⟨#[97]⟩ 32
def wkB : ByteArray := fullB ⟨#[98]⟩ 32
def wk2 : ChipM := { wk1 with sins := 1 }
def wk3 : ChipM := (progT wk2 0 0 wkA wkB).1
theorem wk_one (d e : ByteArray) (hd : d.size = 32) (he : e.size = 32) : progT wk1 0 1 d e = (wk2, 11) := by
  unfold progT
  rw [if_neg (by decide +kernel), if_neg (by rw [hd, he]; decide +kernel)]
  rfl
theorem wk_two (d e : ByteArray) (hd : d.size = 32) (he : e.size = 32) : progT wk2 0 0 d e = (progS wk2 0 0 d e, 0) := by
  unfold progT
  rw [if_neg (by decide +kernel), if_neg (by rw [hd, he]; decide +kernel)]
  rfl
theorem wk_ok1 : NandOk wk1 := ⟨by decide +kernel, by decide +kernel, by decide +kernel, by decide +kernel, by decide +kernel, by decide +kernel⟩
theorem wk_ok2 : NandOk wk2 := ⟨by decide +kernel, by decide +kernel, by decide +kernel, by decide +kernel, by decide +kernel, by decide +kernel⟩
theorem wk_ask (b : Nat) (hb : b < 4) : askE wk3 (b : Int) 0 = 0 := by
  have h : wk3 = progS wk2 0 0 wkA wkB := by unfold wk3; rw [wk_two wkA wkB (fullB_size _ _) (fullB_size _ _)]
  rw [h]
  have h4 : b = 0 ∨ b = 1 ∨ b = 2 ∨ b = 3 := by omega
  rcases h4 with rfl | rfl | rfl | rfl <;> rfl
theorem wk3_eq : wk3 = progS wk2 0 0 wkA wkB := by unfold wk3; rw [wk_two wkA wkB (fullB_size _ _) (fullB_size _ _)]
theorem wk_read : readP wk3 0 0 = (wkA, wkB) := by rw [wk3_eq]; rfl
theorem wk_bad : (readP wk3 3 0).2 = zeroB ++ (filledP 32 ffB).2.extract 1 (filledP 32 ffB).2.size := by rw [wk3_eq]; rfl
theorem wk_sins : wk3.sins = 1 := by rw [wk3_eq]; rfl
theorem wk_next : nextZ wk3 0 = 1 := by rw [wk3_eq]; rfl
theorem wk_ask3 : askE wk3 3 0 = 0 := wk_ask 3 (by decide)
theorem wk_ask0 : askE wk3 0 0 = 0 := wk_ask 0 (by decide)
end Go.Proofs.YtjfmkfhjbdiojaaGreat

namespace Go.Proofs.YtjfmkfhjbdiojaaGreat
set_option linter.unusedSimpArgs false
set_option linter.unusedVariables false
open Go.RowKit Go.WideShapes Go.ChangeShapes Go.ChangeAt Go.Deep

theorem odd_byte : ∀ n : Nat, n < 256 → (bits BinOp.and IntKind.u8 (n : Int) 1 == 1) = (n % 2 == 1) := by decide +kernel
/-- is this page erased in an Erase that is cut? -/
def goneB (t : ByteArray) (j : Nat) : Bool := t.size == 0 || (t.get! (j % t.size)).toNat % 2 == 1
set_option maxRecDepth 100000 in
set_option maxHeartbeats 400000 in
theorem gone_torn (t : ByteArray) (ht : t.size ≤ 1000000) (tb j : Nat) (hj : j ≤ 64) (w : World) (hb : w.heap[tb]? = some (.cells #[.string t] 9 (0, 0))) :
    Calls Tryz.prog 141 #[.int .i64 (j : Int), .pointer (some ⟨tb, 0, none⟩)] w fun e w' => e = .returned (.bool (goneB t j)) ∧ Below w.heap.size w w' := by
  have c0 : w.cell? ⟨tb, 0, none⟩ = some (.string t) := cell_of_block hb 0
  by_cases hz : t.size = 0
  · have HG := hide (show true = goneB t j by unfold goneB; rw [hz]; rfl)
    rw [size_zero t hz] at c0
    clear hb
    go_enter Tryz.func141, Tryz.ntmps141
    go_wp2_with fail
    go_quiet (fail)
    go_wp2_with fail
    go_ret
    exact ⟨ret_bb HG.out, below_drewN (Below.refl _ _) _⟩
  · have hne : t.toList.isEmpty = false := by
      rw [ByteArray.toList_eq]
      cases hq : t.data.toList with
      | nil =>
        have h1 : t.data.toList.length = 0 := by rw [hq]; rfl
        rw [size_list] at h1
        exact absurd h1 hz
      | cons a l => rfl
    have hm : j % t.size < t.size := Nat.mod_lt _ (by omega)
    have hr1 : 0 ≤ (j : Int) % (t.size : Int) := by omega
    have hr2 : (j : Int) % (t.size : Int) < (t.size : Int) := by omega
    have HG := hide (show (bits BinOp.and IntKind.u8 ((t[j % t.size]'hm).toNat : Int) 1 == 1) = goneB t j by
      unfold goneB
      rw [show (t.size == 0) = false from beq_eq_false_iff_ne.2 hz, Bool.false_or, odd_byte _ (by have := (t[j % t.size]'hm).toNat_lt; omega)]
      congr 3
      show _ = t.data[j % t.size]!
      rw [getElem!_pos t.data (j % t.size) hm]
      rfl)
    clear hb
    go_enter Tryz.func141, Tryz.ntmps141
    go_wp2_with fail
    go_quiet (fail)
    go_wp2_with fail
    go_ret
    exact ⟨ret_bb HG.out, below_drewN (Below.refl _ _) _⟩
/-- some of the first j pages are erased -/
def wipeG (x : Pg) (L : List Pg) (g : Nat → Bool) : Nat → List Pg
  | 0 => L
  | j + 1 => if g j = true then (wipeG x L g j).set j x else wipeG x L g j
/-- the page behind the last of the first j that isn't blank -/
def wipeN (x : Pg) (L : List Pg) (g : Nat → Bool) : Nat → Int
  | 0 => 0
  | j + 1 => if (wipeG x L g (j + 1)).getD j pg0 = x then wipeN x L g j else (j : Int) + 1
theorem wipeG_length (x : Pg) (L : List Pg) (g : Nat → Bool) : ∀ j, (wipeG x L g j).length = L.length
  | 0 => rfl
  | j + 1 => by
    rw [wipeG]
    split
    · rw [List.length_set, wipeG_length x L g j]
    · exact wipeG_length x L g j
theorem list_ne (a b : ByteArray) (h : ¬ a = b) : (a.toList == b.toList) = false := by
  rw [ByteArray.toList_eq, ByteArray.toList_eq, beq_eq_false_iff_ne]
  intro h2
  exact h (ByteArray.ext (Array.toList_inj.1 h2))
theorem neq_pg_not (a b a' b' : ByteArray) (h : ¬ ((a, b) : Pg) = (a', b')) (w : World) : (binOp .neq 107 (.agg #[.string a, .string b]) (.agg #[.string a', .string b'])).run Tryz.prog w = .ok (.bool true) w := by
  rw [run_neq_struct, eq_pg]
  by_cases h1 : a = a'
  · have h2 : ¬ b = b' := fun h2 => h (by rw [h1, h2])
    rw [list_ne b b' h2]
    simp
  · rw [list_ne a a' h1]
    simp
/-- the block under way -/
def wipeB (S : ChipM) (k : Nat) (g : Nat → Bool) (j : Nat) : BlkM := { S.blk k with pages := wipeG S.blank (S.blk k).pages g j, next := wipeN S.blank (S.blk k).pages g j }
set_option maxRecDepth 100000 in
set_option maxHeartbeats 1000000 in
theorem wipe_torn (p q B : Nat) (G : Nat → Nat) (S : ChipM) (k : Nat) (hk : k < S.L.length) (t : ByteArray) (ht : t.size ≤ 1000000) (tb : Nat) (w : World) (hx : w.heap[tb]? = some (.cells #[.string t] 9 (0, 0))) (h : NandAt w p q B G S) :
    Calls Tryz.prog 136 #[.pointer (some ⟨p, 0, none⟩), .pointer (some ⟨q, k * 6, none⟩), .func (.func 141) #[] #[.pointer (some ⟨tb, 0, none⟩)]] w (NandIs p q B G (S.put k (wipeB S k (goneB t) S.pgs)) (.tuple #[]) w) := by
  have hg64 := h.few.2
  have HGT := hide (fun (j : Nat) (hj : j ≤ 64) (W : World) (hW : W.heap[tb]? = some (.cells #[.string t] 9 (0, 0))) => gone_torn t ht tb j hj W hW)
  have d1 : w.cell? ⟨q, k * 6 + 1, none⟩ = some (.int .i64 (S.blk k).next) := h.slot k hk 1 (by decide)
  have f1 := h.row.free (k * 6 + 1)
  have hset := h.setBlk k hk 1 (by decide) (.int .i64 0) { S.blk k with next := 0 } rfl rfl
  have N1 := hide (show NandAt (w.setCell ⟨q, k * 6 + 1, none⟩ (.int .i64 0)) p q B G (S.put k (wipeB S k (goneB t) 0)) from hset)
  have T1 := hide (h.turnBlk (k * 6 + 1) (.int .i64 0))
  have X1 := hide ((block_setCell_other (rows_apart_head h.row hx (by decide)) (k * 6 + 1) (.int .i64 0)).trans hx)
  have d0 : (w.setCell ⟨q, k * 6 + 1, none⟩ (.int .i64 0)).cell? ⟨q, k * 6, none⟩ = some (.slice (some ⟨G k, 0, none⟩) S.pgs S.pgs) := by
    refine (show _ = _ from hset.slot k (by rw [put_length]; exact hk) 0 (by decide)).trans ?_
    rw [blk_put_self S k _ hk, ← h.len k hk]; rfl
  have d0' : w.cell? ⟨q, k * 6, none⟩ = some (.slice (some ⟨G k, 0, none⟩) S.pgs S.pgs) := by
    have := h.slot k hk 0 (by decide)
    rw [Nat.add_zero] at this
    rw [this, ← h.len k hk]; rfl
  have HL := hide (h.len k hk)
  clear h hset hx
  generalize goneB t = g at *
  go_enter Tryz.func136, Tryz.ntmps136
  go_wp2_with fail
  clear d0 d0' d1 f1
  generalize w.setCell ⟨q, k * 6 + 1, none⟩ (.int .i64 0) = w1 at *
  go_loopw [15] (fun i W => ∃ j : Nat, j ≤ S.pgs ∧ i = .int .i64 j ∧ NandAt W p q B G (S.put k (wipeB S k g j)) ∧ W.heap[tb]? = some (.cells #[.string t] 9 (0, 0)) ∧ Turn B w W) (fun i _ => S.pgs - (intOf i).toNat)
  case atStart => exact ⟨0, by omega, rfl, N1.out, X1.out, T1.out⟩
  case round =>
    obtain ⟨j, hj, rfl, hn, hx, ht⟩ := hrel
    have NJ := hide hn
    have XJ := hide hx
    have TJ := hide ht
    clear hn hx ht
    by_cases hlt : j < S.pgs
    · go_wp2_with fail
      refine (HGT.out j (by omega) _ XJ.out).mono ?_
      rintro e w2 ⟨rfl, hb⟩
      have N2 := hide (NJ.out.below hb)
      have X2 := hide ((hb.block _ (heap_lt XJ.out)).trans XJ.out)
      have T2 := hide (TJ.out.trans (Turn.of_below hb NJ.out.size))
      clear hb NJ XJ TJ
      obtain ⟨SJ, hSJ⟩ : ∃ SJ, SJ = S.put k (wipeB S k g j) := ⟨_, rfl⟩
      have hbj : SJ.blk k = wipeB S k g j := by rw [hSJ, blk_put_self S k _ hk]
      have hkj : k < SJ.L.length := by rw [hSJ, put_length]; exact hk
      have hjj : j < SJ.pgs := by rw [hSJ]; exact hlt
      have hbl : SJ.blank = S.blank := by rw [hSJ]; rfl
      rw [← hSJ] at N2
      cases hgj : g j with
      | true =>
        have hmb : SJ.put k { SJ.blk k with pages := (SJ.blk k).pages.set j S.blank } = S.put k { S.blk k with pages := wipeG S.blank (S.blk k).pages g (j + 1), next := wipeN S.blank (S.blk k).pages g j } := by
          rw [hbj, hSJ, put_put, show wipeG S.blank (S.blk k).pages g (j + 1) = (wipeG S.blank (S.blk k).pages g j).set j S.blank from if_pos hgj]
          rfl
        have d0 : w2.cell? ⟨q, k * 6, none⟩ = some (.slice (some ⟨G k, 0, none⟩) S.pgs S.pgs) := by
          refine (show _ = _ from N2.out.slot k hkj 0 (by decide)).trans ?_
          rw [hbj]
          show some (Value.slice _ (wipeG S.blank (S.blk k).pages g j).length (wipeG S.blank (S.blk k).pages g j).length) = _
          rw [wipeG_length, HL.out]
        have c3 : w2.cell? ⟨p, 3, none⟩ = some (.string S.blank.1) := by rw [← hbl]; exact N2.out.cell 3
        have c4 : w2.cell? ⟨p, 4, none⟩ = some (.string S.blank.2) := by rw [← hbl]; exact N2.out.cell 4
        have e0 := N2.out.leaf k hkj j hjj 0 (by decide)
        have e1 := N2.out.leaf k hkj j hjj 1 (by decide)
        simp only [pgC, List.getElem?_cons_zero, List.getElem?_cons_succ, Nat.add_zero] at e0 e1
        have g0 := (N2.out.page k hkj).free (j * 2)
        have g1 := (N2.out.page k hkj).free (j * 2 + 1)
        have hgt : G k ≠ tb := rows_apart_head (N2.out.page k hkj) X2.out (by decide)
        have N3 := hide ((N2.out.setPage2 k hkj j hjj S.blank).drew)
        rw [hmb] at N3
        have T3 := hide ((T2.out.trans (N2.out.turnPage2 k hkj j hjj S.blank.1 S.blank.2)).drew)
        have X3 := hide (show (((w2.setCell ⟨G k, j * 2, none⟩ (.string S.blank.1)).setCell ⟨G k, j * 2 + 1, none⟩ (.string S.blank.2)).drew).heap[tb]? = _ from (block_setCell_other hgt (j * 2 + 1) (.string S.blank.2)).trans ((block_setCell_other hgt (j * 2) (.string S.blank.1)).trans X2.out))
        clear hmb hbj hSJ hbl hgt
        go_wp2_with fail
        go_upto_region 5 with (fail)
        go_still_tail 10, (by kernel_rfl)
        change wpList _ _ _ _ _ w2.drew
        go_wp2_with fail
        clear d0 c3 c4 e0 e1 g0 g1 N2 T2 X2
        generalize ((w2.setCell ⟨G k, j * 2, none⟩ (.string S.blank.1)).setCell ⟨G k, j * 2 + 1, none⟩ (.string S.blank.2)).drew = w3 at *
        have hpj : (wipeG S.blank (S.blk k).pages g (j + 1)).getD j pg0 = S.blank := by
          show (if g j = true then (wipeG S.blank (S.blk k).pages g j).set j S.blank else _).getD j pg0 = _
          rw [if_pos hgj]
          exact getD_set_self _ _ _ _ (by rw [wipeG_length, HL.out]; exact hlt)
        obtain ⟨SK, hSK⟩ : ∃ SK, SK = S.put k { S.blk k with pages := wipeG S.blank (S.blk k).pages g (j + 1), next := wipeN S.blank (S.blk k).pages g j } := ⟨_, rfl⟩
        have hbk : SK.blk k = { S.blk k with pages := wipeG S.blank (S.blk k).pages g (j + 1), next := wipeN S.blank (S.blk k).pages g j } := by rw [hSK, blk_put_self S k _ hk]
        have hkk : k < SK.L.length := by rw [hSK, put_length]; exact hk
        have hjk : j < SK.pgs := by rw [hSK]; exact hlt
        have hbl : SK.blank = S.blank := by rw [hSK]; rfl
        rw [← hSK] at N3
        have d0 : w3.cell? ⟨q, k * 6, none⟩ = some (.slice (some ⟨G k, 0, none⟩) S.pgs S.pgs) := by
          refine (show _ = _ from N3.out.slot k hkk 0 (by decide)).trans ?_
          rw [hbk]
          show some (Value.slice _ (wipeG S.blank (S.blk k).pages g (j + 1)).length (wipeG S.blank (S.blk k).pages g (j + 1)).length) = _
          rw [wipeG_length, HL.out]
        have c3 : w3.cell? ⟨p, 3, none⟩ = some (.string S.blank.1) := by rw [← hbl]; exact N3.out.cell 3
        have c4 : w3.cell? ⟨p, 4, none⟩ = some (.string S.blank.2) := by rw [← hbl]; exact N3.out.cell 4
        have e0 := N3.out.leaf k hkk j hjk 0 (by decide)
        have e1 := N3.out.leaf k hkk j hjk 1 (by decide)
        rw [hbk] at e0 e1
        have hgd := guard_pg
        rw [hpj] at e0 e1
        simp only [pgC, List.getElem?_cons_zero, List.getElem?_cons_succ, Nat.add_zero] at e0 e1
        have hne := neq_pg S.blank.1 S.blank.2
        have hBE : wipeB S k g (j + 1) = { S.blk k with pages := wipeG S.blank (S.blk k).pages g (j + 1), next := wipeN S.blank (S.blk k).pages g j } := by
          unfold wipeB
          rw [show wipeN S.blank (S.blk k).pages g (j + 1) = wipeN S.blank (S.blk k).pages g j from if_pos hpj]
        rw [hSK, ← hBE] at N3
        clear hpj hbl hbk hSK hBE
        go_quiet (fail)
        clear d0 c3 c4 e0 e1 hne hgd
        go_wp2_with fail
        go_roundw
        case rel => exact ⟨j + 1, by omega, by go_num, N3.out.drewN _, X3.out, T3.out.drewN _⟩
        case measure => simp [intOf]; omega
      | false =>
        have hmb : SJ = S.put k { S.blk k with pages := wipeG S.blank (S.blk k).pages g (j + 1), next := wipeN S.blank (S.blk k).pages g j } := by
          rw [hSJ, show wipeG S.blank (S.blk k).pages g (j + 1) = wipeG S.blank (S.blk k).pages g j from if_neg (by rw [hgj]; decide)]
          rfl
        have N3 := hide (show NandAt w2 p q B G (S.put k { S.blk k with pages := wipeG S.blank (S.blk k).pages g (j + 1), next := wipeN S.blank (S.blk k).pages g j }) by rw [← hmb]; exact N2.out)
        have T3 := hide T2.out
        have X3 := hide X2.out
        clear hmb hbj hSJ hbl N2 T2 X2 hkj hjj
        generalize w2 = w3 at *
        by_cases hpj : (wipeG S.blank (S.blk k).pages g (j + 1)).getD j pg0 = S.blank
        · go_wp2_with fail
          have hdone := hlt
          obtain ⟨SK, hSK⟩ : ∃ SK, SK = S.put k { S.blk k with pages := wipeG S.blank (S.blk k).pages g (j + 1), next := wipeN S.blank (S.blk k).pages g j } := ⟨_, rfl⟩
          have hbk : SK.blk k = { S.blk k with pages := wipeG S.blank (S.blk k).pages g (j + 1), next := wipeN S.blank (S.blk k).pages g j } := by rw [hSK, blk_put_self S k _ hk]
          have hkk : k < SK.L.length := by rw [hSK, put_length]; exact hk
          have hjk : j < SK.pgs := by rw [hSK]; exact hlt
          have hbl : SK.blank = S.blank := by rw [hSK]; rfl
          rw [← hSK] at N3
          have d0 : w3.cell? ⟨q, k * 6, none⟩ = some (.slice (some ⟨G k, 0, none⟩) S.pgs S.pgs) := by
            refine (show _ = _ from N3.out.slot k hkk 0 (by decide)).trans ?_
            rw [hbk]
            show some (Value.slice _ (wipeG S.blank (S.blk k).pages g (j + 1)).length (wipeG S.blank (S.blk k).pages g (j + 1)).length) = _
            rw [wipeG_length, HL.out]
          have c3 : w3.cell? ⟨p, 3, none⟩ = some (.string S.blank.1) := by rw [← hbl]; exact N3.out.cell 3
          have c4 : w3.cell? ⟨p, 4, none⟩ = some (.string S.blank.2) := by rw [← hbl]; exact N3.out.cell 4
          have e0 := N3.out.leaf k hkk j hjk 0 (by decide)
          have e1 := N3.out.leaf k hkk j hjk 1 (by decide)
          rw [hbk] at e0 e1
          have hgd := guard_pg
          rw [hpj] at e0 e1
          simp only [pgC, List.getElem?_cons_zero, List.getElem?_cons_succ, Nat.add_zero] at e0 e1
          have hne := neq_pg S.blank.1 S.blank.2
          have hBE : wipeB S k g (j + 1) = { S.blk k with pages := wipeG S.blank (S.blk k).pages g (j + 1), next := wipeN S.blank (S.blk k).pages g j } := by
            unfold wipeB
            rw [show wipeN S.blank (S.blk k).pages g (j + 1) = wipeN S.blank (S.blk k).pages g j from if_pos hpj]
          rw [hSK, ← hBE] at N3
          clear hpj hbl hbk hSK hBE
          go_quiet (fail)
          clear d0 c3 c4 e0 e1 hne hgd
          go_wp2_with fail
          go_roundw
          case rel => exact ⟨j + 1, by omega, by go_num, N3.out.drewN _, X3.out, T3.out.drewN _⟩
          case measure => simp [intOf]; omega
        · have HNE := hide hpj
          obtain ⟨SK, hSK⟩ : ∃ SK, SK = S.put k { S.blk k with pages := wipeG S.blank (S.blk k).pages g (j + 1), next := wipeN S.blank (S.blk k).pages g j } := ⟨_, rfl⟩
          have hbk : SK.blk k = { S.blk k with pages := wipeG S.blank (S.blk k).pages g (j + 1), next := wipeN S.blank (S.blk k).pages g j } := by rw [hSK, blk_put_self S k _ hk]
          have hkk : k < SK.L.length := by rw [hSK, put_length]; exact hk
          have hjk : j < SK.pgs := by rw [hSK]; exact hlt
          have hbl : SK.blank = S.blank := by rw [hSK]; rfl
          rw [← hSK] at N3
          have d0 : w3.cell? ⟨q, k * 6, none⟩ = some (.slice (some ⟨G k, 0, none⟩) S.pgs S.pgs) := by
            refine (show _ = _ from N3.out.slot k hkk 0 (by decide)).trans ?_
            rw [hbk]
            show some (Value.slice _ (wipeG S.blank (S.blk k).pages g (j + 1)).length (wipeG S.blank (S.blk k).pages g (j + 1)).length) = _
            rw [wipeG_length, HL.out]
          have c3 : w3.cell? ⟨p, 3, none⟩ = some (.string S.blank.1) := by rw [← hbl]; exact N3.out.cell 3
          have c4 : w3.cell? ⟨p, 4, none⟩ = some (.string S.blank.2) := by rw [← hbl]; exact N3.out.cell 4
          have e0 := N3.out.leaf k hkk j hjk 0 (by decide)
          have e1 := N3.out.leaf k hkk j hjk 1 (by decide)
          rw [hbk] at e0 e1
          have hgd := guard_pg
          obtain ⟨y, hy⟩ : ∃ y, y = (wipeG S.blank (S.blk k).pages g (j + 1)).getD j pg0 := ⟨_, rfl⟩
          rw [← hy] at e0 e1
          simp only [pgC, List.getElem?_cons_zero, List.getElem?_cons_succ, Nat.add_zero] at e0 e1
          have hne := neq_pg_not y.1 y.2 S.blank.1 S.blank.2 (by rw [hy]; exact HNE.out)
          have d1 : w3.cell? ⟨q, k * 6 + 1, none⟩ = some (.int .i64 (wipeN S.blank (S.blk k).pages g j)) := by
            refine (show _ = _ from N3.out.slot k hkk 1 (by decide)).trans ?_
            rw [hbk]; rfl
          have f1 := N3.out.row.free (k * 6 + 1)
          have hBE : wipeB S k g (j + 1) = { S.blk k with pages := wipeG S.blank (S.blk k).pages g (j + 1), next := (j : Int) + 1 } := by
            unfold wipeB
            rw [show wipeN S.blank (S.blk k).pages g (j + 1) = (j : Int) + 1 from if_neg HNE.out]
          have hwr : IntKind.i64.wrap ((j : Int) + 1) = (j : Int) + 1 := by rw [IntKind.wrap_i64]; omega
          clear hpj hy HNE
          go_wp2_with fail
          go_quiet (fail)
          clear d0 c3 c4 e0 e1 hne hgd
          have NQ := hide (N3.out.drewN nq)
          have XQ := hide (show (w3.drewN nq).heap[tb]? = _ from X3.out)
          have hset := NQ.out.setBlk k hkk 1 (by decide) (.int .i64 ((j : Int) + 1)) (wipeB S k g (j + 1)) (by rw [hBE, hbk]) (by rw [hBE, hbk]; rfl)
          rw [hSK, put_put] at hset
          have HS3 := hide hset
          have HT3 := hide ((T3.out.drewN nq).trans (NQ.out.turnBlk (k * 6 + 1) (.int .i64 ((j : Int) + 1))))
          have HX3 := hide ((block_setCell_other (rows_apart_head NQ.out.row XQ.out (by decide)) (k * 6 + 1) (.int .i64 ((j : Int) + 1))).trans XQ.out)
          clear hset hBE hbl hbk hSK N3 T3 X3 NQ XQ
          go_wp2_with fail
          go_roundw
          case rel => exact ⟨j + 1, by omega, by go_num, HS3.out, HX3.out, HT3.out⟩
          case measure => simp [intOf]; omega
    · obtain rfl : j = S.pgs := by omega
      go_wp2_with fail
      go_end0
      exact ⟨rfl, NJ.out, TJ.out⟩
end Go.Proofs.YtjfmkfhjbdiojaaGreat

namespace Go.Proofs.YtjfmkfhjbdiojaaGreat
set_option linter.unusedSimpArgs false
set_option linter.unusedVariables false
open Go.RowKit Go.WideShapes Go.ChangeShapes Go.ChangeAt Go.Deep

theorem torn_erase (p q B : Nat) (G : Nat → Nat) (S : ChipM) (w : World) (h : NandAt w p q B G S) :
    Calls Tryz.prog 137 #[.pointer (some ⟨p, 0, none⟩)] w fun e w' => e = .returned (.func (.func 141) #[] #[.pointer (some ⟨w.heap.size, 0, none⟩)]) ∧ w'.heap[w.heap.size]? = some (.cells #[.string S.torn] 9 (0, 0)) ∧ Below w.heap.size w w' := by
  have c10 : w.cell? ⟨p, 10, none⟩ = some (.string S.torn) := h.cell 10
  clear h
  go_enter Tryz.func137, Tryz.ntmps137
  go_wp2_with fail
  go_ret
  exact ⟨rfl, heap_new w _, (Below.refl _ _).alloc (Nat.le_refl _) _⟩
/-- what an Erase turns that is cut -/
def eraseCut (S : ChipM) (k : Nat) : ChipM := (cutS (erasS S)).put k (wipeB (cutS (erasS S)) k (goneB S.torn) S.pgs)
set_option maxRecDepth 100000 in
set_option maxHeartbeats 1000000 in
theorem erase_cut (p q B : Nat) (G : Nat → Nat) (S : ChipM) (hS : NandOk S) (k : Nat) (w : World) (h : NandAt w p q B G S) (ha : askE S (k : Int) 0 = 0) (hE : sinE (S.blk k) false = 0) (hfz : S.fuse = 1) :
    Calls Tryz.prog 131 #[.pointer (some ⟨p, 0, none⟩), .int .i64 (k : Int)] w (NandIs p q B G (eraseCut S k) (.int .i64 9) w) := by
  obtain ⟨ho, -, hk', -, hi'⟩ := askE_in ha
  have hk : k < S.L.length := by omega
  have HASK := hide (ask_any p q B G S (k : Int) 0 w h)
  rw [ha] at HASK
  have HAT := hide (at_yes p q B G S k hk w h)
  have HS := hide (sin_any p q B G S k hk false hS.sins.1 (by have := hS.sins.2; omega) w h)
  rw [show sinS S k false = S by unfold sinS; rw [if_pos hE], hE] at HS
  have HC := hide (fun W hW => cut_eras p q B G S hS.eras.1 (by have := hS.eras.2; omega) hS.fuse.1 hS.fuse.2 W hW)
  rw [decide_eq_true hfz] at HC
  have HR := hide (show eraseCut S k = (cutS (erasS S)).put k (wipeB (cutS (erasS S)) k (goneB S.torn) S.pgs) from rfl)
  rw [HR.out]
  clear HR
  have hl1 : k < (cutS (erasS S)).L.length := by rw [cut_len]; exact hk
  have ht1 : (cutS (erasS S)).torn = S.torn := by rw [cut_torn]; rfl
  have hp1 : (cutS (erasS S)).pgs = S.pgs := by rw [cut_pgs]; rfl
  generalize cutS (erasS S) = S1 at *
  have HTE := hide (fun W hW => torn_erase p q B G S1 W hW)
  rw [ht1] at HTE
  have HWI := hide (fun tb W hX hW => wipe_torn p q B G S1 k hl1 S.torn hS.torn tb W hX hW)
  rw [hp1] at HWI
  clear h ha hS hE hfz ht1 hp1 hl1
  go_enter Tryz.func131, Tryz.ntmps131
  go_wp2_with fail
  refine HASK.out.mono ?_
  rintro e0 w1 ⟨rfl, rfl⟩
  go_wp2_with fail
  refine HAT.out.mono ?_
  rintro e0 w1 ⟨rfl, rfl⟩
  go_wp2_with fail
  refine HS.out.mono ?_
  rintro e0 w2 ⟨rfl, hn, ht⟩
  have N2 := hide hn
  have T2 := hide ht
  clear hn ht HASK HAT HS
  go_wp2_with fail
  refine (HC.out _ N2.out).mono ?_
  rintro e0 w3 ⟨rfl, hn, ht⟩
  have N3 := hide hn
  have T3 := hide (T2.out.trans ht)
  clear hn ht N2 T2 HC
  go_wp2_with fail
  refine (HTE.out _ N3.out).mono ?_
  rintro e0 w4 ⟨rfl, hx, hb⟩
  have X4 := hide hx
  have N4 := hide (N3.out.below hb)
  have T4 := hide (T3.out.trans (Turn.of_below hb N3.out.size))
  clear hx hb
  go_wp2_with fail
  refine (HWI.out _ _ X4.out N4.out).mono ?_
  rintro e0 w5 ⟨rfl, hn, ht⟩
  have N5 := hide hn
  have T5 := hide (T4.out.trans ht)
  clear hn ht
  go_wp2_with fail
  go_ret
  exact ⟨rfl, N5.out, T5.out⟩
/-- what Erase turns, and tells -/
def eraseT (S : ChipM) (b : Int) : ChipM × Int :=
  if askE S b 0 ≠ 0 then (S, askE S b 0)
  else if sinE (S.blk b.toNat) false ≠ 0 then (sinS S b.toNat false, sinE (S.blk b.toNat) false)
  else if S.fuse = 1 then (eraseCut S b.toNat, 9)
  else (erasedS S b.toNat, erasedE S b.toNat)
/-- no block was erased too often -/
def FewE (S : ChipM) : Prop := ∀ k, k < S.L.length → 0 ≤ (S.blk k).erased ∧ (S.blk k).erased ≤ 1000000
theorem erase_any (p q B : Nat) (G : Nat → Nat) (S : ChipM) (hS : NandOk S) (hF : FewE S) (b : Int) (w : World) (h : NandAt w p q B G S) :
    Calls Tryz.prog 131 #[.pointer (some ⟨p, 0, none⟩), .int .i64 b] w (NandIs p q B G (eraseT S b).1 (.int .i64 (eraseT S b).2) w) := by
  by_cases ha : askE S b 0 = 0
  · obtain ⟨-, h0, h1, -, -⟩ := askE_in ha
    obtain ⟨k, rfl⟩ : ∃ k : Nat, (k : Int) = b := ⟨b.toNat, by omega⟩
    by_cases hE : sinE (S.blk k) false = 0
    · by_cases hf : S.fuse = 1
      · have e1 : eraseT S (k : Int) = (eraseCut S k, 9) := by unfold eraseT; rw [if_neg (fun h => h ha), Int.toNat_natCast, if_neg (fun h => h hE), if_pos hf]
        rw [e1]
        exact erase_cut p q B G S hS k w h ha hE hf
      · have e1 : eraseT S (k : Int) = (erasedS S k, erasedE S k) := by unfold eraseT; rw [if_neg (fun h => h ha), Int.toNat_natCast, if_neg (fun h => h hE), if_neg hf]
        rw [e1]
        exact erase_go p q B G S hS k w h ha hE hf (hF k (by omega))
    · have e1 : eraseT S (k : Int) = (sinS S k false, sinE (S.blk k) false) := by unfold eraseT; rw [if_neg (fun h => h ha), Int.toNat_natCast, if_pos hE]
      rw [e1]
      exact erase_sin p q B G S hS k w h ha hE
  · have e1 : eraseT S b = (S, askE S b 0) := by unfold eraseT; rw [if_pos ha]
    rw [e1]
    exact erase_ask p q B G S b w h ha
end Go.Proofs.YtjfmkfhjbdiojaaGreat

namespace Go.Proofs.YtjfmkfhjbdiojaaGreat
set_option linter.unusedSimpArgs false
set_option linter.unusedVariables false

/-- the bytes of a number in a width, most significant first -/
def putL (n : Nat) : Nat → List UInt8
  | 0 => []
  | k + 1 => putL (n / 256) k ++ [UInt8.ofNat (n % 256)]
def bs (l : List UInt8) : ByteArray := ⟨l.toArray⟩
def getN (l : List UInt8) : Nat := l.foldl (fun n b => n * 256 + b.toNat) 0
def last8 (l : List UInt8) : List UInt8 := l.drop (l.length - 8)

theorem bs_toList (l : List UInt8) : (bs l).data.toList = l := rfl
theorem bs_size (l : List UInt8) : (bs l).size = l.length := rfl
theorem bs_of (s : ByteArray) : bs s.data.toList = s := rfl
theorem bs_append (a b : List UInt8) : bs a ++ bs b = bs (a ++ b) := by
  apply ByteArray.ext
  simp [bs]
theorem bs_inj {a b : List UInt8} (h : bs a = bs b) : a = b := by
  have := congrArg (fun s : ByteArray => s.data.toList) h
  simpa [bs] using this

@[simp] theorem putL_length : ∀ (k n : Nat), (putL n k).length = k
  | 0, _ => rfl
  | k + 1, n => by simp [putL, putL_length k]

theorem pow256 (k : Nat) : 0 < 256 ^ k := Nat.pow_pos (by omega)

theorem putL_add : ∀ (m k n : Nat), putL n (k + m) = putL (n / 256 ^ m) k ++ putL n m
  | 0, k, n => by simp [putL]
  | m + 1, k, n => by
    rw [show k + (m + 1) = (k + m) + 1 from rfl]
    simp only [putL]
    rw [putL_add m k (n / 256), Nat.div_div_eq_div_mul, ← Nat.pow_succ', List.append_assoc]

theorem putL_cons (k n : Nat) : putL n (k + 1) = UInt8.ofNat (n / 256 ^ k % 256) :: putL n k := by
  rw [show k + 1 = 1 + k by omega, putL_add]
  simp [putL]

theorem getN_snoc (l : List UInt8) (b : UInt8) : getN (l ++ [b]) = getN l * 256 + b.toNat := by simp [getN]
theorem foldl_get (l : List UInt8) : ∀ a : Nat, l.foldl (fun n b => n * 256 + b.toNat) a = a * 256 ^ l.length + getN l := by
  induction l with
  | nil => intro a; simp [getN]
  | cons b l ih =>
    intro a
    have h0 := ih (0 * 256 + b.toNat)
    simp only [List.foldl_cons, getN, List.length_cons] at *
    rw [ih, h0, Nat.pow_succ]
    generalize 256 ^ l.length = p
    rw [Nat.add_mul, Nat.mul_assoc, Nat.mul_comm 256 p]
    simp only [Nat.zero_mul, Nat.zero_add]
    omega
theorem getN_append (a b : List UInt8) : getN (a ++ b) = getN a * 256 ^ b.length + getN b := by
  unfold getN; rw [List.foldl_append, foldl_get]; rfl
theorem getN_cons (b : UInt8) (l : List UInt8) : getN (b :: l) = b.toNat * 256 ^ l.length + getN l := by
  have := getN_append [b] l
  simpa [getN] using this
theorem getN_lt (l : List UInt8) : getN l < 256 ^ l.length := by
  induction l with
  | nil => simp [getN]
  | cons b l ih =>
    rw [getN_cons, List.length_cons, Nat.pow_succ]
    have := b.toNat_lt
    have h : b.toNat * 256 ^ l.length ≤ 255 * 256 ^ l.length := Nat.mul_le_mul_right _ (by omega)
    omega
theorem getN_zeros (k : Nat) (l : List UInt8) : getN (List.replicate k 0 ++ l) = getN l := by
  rw [getN_append]
  have : getN (List.replicate k 0) = 0 := by
    induction k with
    | zero => rfl
    | succ k ih => rw [List.replicate_succ, getN_cons, ih]; simp
  rw [this]; omega

theorem getN_putL : ∀ (k n : Nat), getN (putL n k) = n % 256 ^ k
  | 0, n => by simp [putL, getN, Nat.mod_one]
  | k + 1, n => by
    rw [putL, getN_snoc, getN_putL k]
    have h : (UInt8.ofNat (n % 256)).toNat = n % 256 := by simp
    rw [h, Nat.pow_succ, Nat.mul_comm (256 ^ k) 256, Nat.mod_mul]
    omega
theorem putL_getN (l : List UInt8) : putL (getN l) l.length = l := by
  generalize hl : l.reverse = r
  obtain rfl : l = r.reverse := by rw [← hl, List.reverse_reverse]
  clear hl
  induction r with
  | nil => rfl
  | cons b r ih =>
    rw [List.reverse_cons, getN_snoc, List.length_append]
    simp only [List.length_cons, List.length_nil, putL]
    have hb := b.toNat_lt
    rw [show (getN r.reverse * 256 + b.toNat) / 256 = getN r.reverse by omega, show (getN r.reverse * 256 + b.toNat) % 256 = b.toNat by omega, ih]
    simp
theorem last8_length (l : List UInt8) : (last8 l).length ≤ 8 := by simp [last8]; omega
theorem last8_short {l : List UInt8} (h : l.length ≤ 8) : last8 l = l := by simp [last8, Nat.sub_eq_zero_of_le h]
theorem getN_last8_lt (l : List UInt8) : getN (last8 l) < 18446744073709551616 := by
  have h := getN_lt (last8 l)
  have h2 : 256 ^ (last8 l).length ≤ 256 ^ 8 := Nat.pow_le_pow_right (by omega) (last8_length l)
  have : (256 : Nat) ^ 8 = 18446744073709551616 := by decide
  omega
theorem putL_mod (k n : Nat) : putL (n % 256 ^ k) k = putL n k := by
  rw [← getN_putL]
  have := putL_getN (putL n k)
  rwa [putL_length] at this

theorem less_get : ∀ (x y : List UInt8), x.length = y.length → Op.bytesLess x y = decide (getN x < getN y)
  | [], [], _ => by simp [Op.bytesLess]
  | [], _ :: _, h => by simp at h
  | _ :: _, [], h => by simp at h
  | a :: x, b :: y, h => by
    have hl : x.length = y.length := by simpa using h
    have hx := getN_lt x
    have hy := getN_lt y
    rw [Op.bytesLess, less_get x y hl, getN_cons, getN_cons, hl, Bool.eq_iff_iff]
    rw [hl] at hx
    simp only [Bool.or_eq_true, Bool.and_eq_true, decide_eq_true_eq, beq_iff_eq, UInt8.lt_iff_toNat_lt, ← UInt8.toNat_inj]
    generalize 256 ^ y.length = p at *
    generalize getN x = X at *
    generalize getN y = Y at *
    generalize a.toNat = A
    generalize b.toNat = B
    constructor
    · rintro (h | ⟨rfl, h⟩)
      · have : (A + 1) * p ≤ B * p := Nat.mul_le_mul_right p h
        rw [Nat.add_mul] at this
        omega
      · omega
    · intro h
      rcases Nat.lt_trichotomy A B with h' | h' | h'
      · exact .inl h'
      · subst h'; exact .inr ⟨rfl, by omega⟩
      · exfalso
        have : (B + 1) * p ≤ A * p := Nat.mul_le_mul_right p h'
        rw [Nat.add_mul] at this
        omega

/-! Fits, Sign, Wide -/
def fitsB (n : Nat) (w : Int) : Bool := decide (1 ≤ w ∧ w ≤ 8 ∧ n < 256 ^ w.toNat)
/-- the lowest k bits as a number with a sign -/
def signZ (n : Nat) (k : Nat) : Int := if 2 * (n % 2 ^ k) < 2 ^ k then ((n % 2 ^ k : Nat) : Int) else ((n % 2 ^ k : Nat) : Int) - 2 ^ k
def signI (n : Nat) (b : Int) : Int := if 1 ≤ b ∧ b ≤ 64 then signZ n b.toNat else 0
def wideB (n : Int) (b : Int) : Bool := decide (1 ≤ b ∧ b ≤ 64 ∧ -(2 ^ (b.toNat - 1)) ≤ n ∧ n < 2 ^ (b.toNat - 1))

theorem signZ_range (n k : Nat) (hk : 1 ≤ k) : -(2 ^ (k - 1) : Int) ≤ signZ n k ∧ signZ n k < 2 ^ (k - 1) := by
  unfold signZ
  obtain ⟨j, rfl⟩ : ∃ j, k = j + 1 := ⟨k - 1, by omega⟩
  have hp : 0 < 2 ^ j := Nat.pow_pos (by omega)
  have hm := Nat.mod_lt n (show 0 < 2 ^ (j + 1) from Nat.pow_pos (by omega))
  have e : (2 : Int) ^ (j + 1) = 2 * ((2 ^ j : Nat) : Int) := by rw [Int.pow_succ]; push_cast; omega
  have e2 : (2 : Int) ^ j = ((2 ^ j : Nat) : Int) := by push_cast; rfl
  rw [Nat.pow_succ] at *
  simp only [Nat.add_sub_cancel]
  rw [e, e2]
  split <;> omega

theorem signZ_iff (n : Int) (k : Nat) (hk : 1 ≤ k) (hk2 : k ≤ 64) (m : Nat) (hm : (m : Int) = n % 18446744073709551616) :
    signZ m k = n ↔ -(2 ^ (k - 1) : Int) ≤ n ∧ n < 2 ^ (k - 1) := by
  constructor
  · intro h
    rw [← h]
    exact signZ_range m k hk
  · rintro ⟨h1, h2⟩
    obtain ⟨j, rfl⟩ : ∃ j, k = j + 1 := ⟨k - 1, by omega⟩
    simp only [Nat.add_sub_cancel] at h1 h2
    have hp : 0 < 2 ^ j := Nat.pow_pos (by omega)
    have e64 : 2 ^ (j + 1) * 2 ^ (63 - j) = 18446744073709551616 := by rw [← Nat.pow_add, show j + 1 + (63 - j) = 64 by omega]
    have hmod : ((m % 2 ^ (j + 1) : Nat) : Int) = n % ((2 ^ (j + 1) : Nat) : Int) := by
      rw [Int.natCast_emod, hm, Int.emod_emod_of_dvd _ (show ((2 ^ (j + 1) : Nat) : Int) ∣ 18446744073709551616 from ⟨((2 ^ (63 - j) : Nat) : Int), by rw [← Int.natCast_mul, e64]; rfl⟩)]
    have eJ : ((2 : Int) ^ j) = ((2 ^ j : Nat) : Int) := by push_cast; rfl
    have eK : ((2 : Int) ^ (j + 1)) = 2 * ((2 ^ j : Nat) : Int) := by rw [Int.pow_succ, eJ]; omega
    rw [eJ] at h1 h2
    unfold signZ
    rw [eK]
    rw [Nat.pow_succ] at *
    generalize 2 ^ j = q at *
    generalize m % (q * 2) = r at *
    by_cases hn : 0 ≤ n
    · rw [Int.emod_eq_of_lt hn (by omega)] at hmod
      rw [if_pos (by omega)]
      omega
    · have e : n % ((q * 2 : Nat) : Int) = n + ((q * 2 : Nat) : Int) := by
        rw [← Int.add_emod_right, Int.emod_eq_of_lt (by omega) (by omega)]
      rw [e] at hmod
      rw [if_neg (by omega)]
      omega

/-- 2 to a number, kept whole -/
def pw (k : Nat) : Nat := 2 ^ k
theorem pw_succ (k : Nat) : pw (k + 1) = 2 * pw k := by unfold pw; rw [Nat.pow_succ]; omega
theorem pw_le {a b : Nat} (h : a ≤ b) : pw a ≤ pw b := Nat.pow_le_pow_right (by omega) h
theorem pw_pos (k : Nat) : 0 < pw k := Nat.pow_pos (by omega)
theorem pw_256 (k : Nat) : pw (8 * k) = 256 ^ k := by unfold pw; rw [Nat.pow_mul]
end Go.Proofs.YtjfmkfhjbdiojaaGreat

namespace Go.Proofs.YtjfmkfhjbdiojaaGreat
set_option linter.unusedSimpArgs false
set_option linter.unusedVariables false

abbrev St := BitVec 32
def feed : St := 0x04C11DB7#32
/-- a step by the bit 0 -/
def T (s : St) : St := (s <<< 1) ^^^ (if s.msb then feed else 0#32)
/-- a bit at the highest place -/
def top (b : Bool) : St := if b then 0x80000000#32 else 0#32
/-- a step of a state by a bit -/
def stepB (s : St) (b : Bool) : St := T (s ^^^ top b)
def stepsB (s : St) (l : List Bool) : St := l.foldl stepB s
/-- a byte's bits, the highest one first -/
def bitsU (x : UInt8) : List Bool := [x.toBitVec[7], x.toBitVec[6], x.toBitVec[5], x.toBitVec[4], x.toBitVec[3], x.toBitVec[2], x.toBitVec[1], x.toBitVec[0]]
def bitsL (l : List UInt8) : List Bool := l.flatMap bitsU
def moreS (s : St) (l : List UInt8) : St := stepsB s (bitsL l)
def firstS : St := 0xFFFFFFFF#32
def sumS (l : List UInt8) : St := ~~~ (moreS firstS l)

theorem xor4 (a b c d : St) : (a ^^^ b) ^^^ (c ^^^ d) = (a ^^^ c) ^^^ (b ^^^ d) := by
  rw [BitVec.xor_assoc, BitVec.xor_assoc, ← BitVec.xor_assoc b c d, BitVec.xor_comm b c, BitVec.xor_assoc c b d]
theorem T_xor (a b : St) : T (a ^^^ b) = T a ^^^ T b := by
  unfold T
  rw [BitVec.msb_xor, BitVec.shiftLeft_xor_distrib, xor4 (a <<< 1)]
  cases a.msb <;> cases b.msb <;> simp
theorem T_zero : T 0#32 = 0#32 := by decide
theorem top_xor (a b : Bool) : top (a ^^ b) = top a ^^^ top b := by cases a <;> cases b <;> decide
theorem step_xor (s s' : St) (b b' : Bool) : stepB (s ^^^ s') (b ^^ b') = stepB s b ^^^ stepB s' b' := by
  unfold stepB
  rw [top_xor, xor4, T_xor]

theorem T_lsb (s : St) : (T s)[0] = s.msb := by
  unfold T feed
  rw [BitVec.getElem_xor]
  cases s.msb <;> simp
theorem T_inj {a b : St} (h : T a = T b) : a = b := by
  have hm : a.msb = b.msb := by rw [← T_lsb a, ← T_lsb b, h]
  unfold T at h
  rw [hm] at h
  have h2 : a <<< 1 = b <<< 1 := by
    have := congrArg (· ^^^ (if b.msb then feed else 0#32)) h
    simpa [BitVec.xor_assoc] using this
  apply BitVec.eq_of_getElem_eq
  intro i hi
  by_cases h31 : i = 31
  · subst h31
    have e1 := BitVec.msb_eq_getLsbD_last a
    have e2 := BitVec.msb_eq_getLsbD_last b
    rw [e1, e2] at hm
    simpa [BitVec.getLsbD_eq_getElem] using hm
  · have := congrArg (fun v : St => v[i + 1]'(by omega)) h2
    simpa using this

def Tn : Nat → St → St
  | 0, s => s
  | n + 1, s => T (Tn n s)
theorem Tn_succ (n : Nat) (s : St) : Tn n (T s) = Tn (n + 1) s := by
  induction n with
  | zero => rfl
  | succ n ih => simp only [Tn, ih]
theorem Tn_inj {n : Nat} {a b : St} (h : Tn n a = Tn n b) : a = b := by
  induction n with
  | zero => exact h
  | succ n ih => exact ih (T_inj h)
theorem Tn_xor (n : Nat) (a b : St) : Tn n (a ^^^ b) = Tn n a ^^^ Tn n b := by
  induction n with
  | zero => rfl
  | succ n ih => simp only [Tn, ih, T_xor]
theorem Tn_zero (n : Nat) : Tn n 0#32 = 0#32 := by
  induction n with
  | zero => rfl
  | succ n ih => simp only [Tn, ih, T_zero]
theorem Tn_add (n m : Nat) (s : St) : Tn (n + m) s = Tn n (Tn m s) := by
  induction n with
  | zero => simp [Tn]
  | succ n ih => rw [show n + 1 + m = (n + m) + 1 by omega]; simp only [Tn, ih]

/-- the bits of a list, from the place 31 - k on downwards -/
def word : Nat → List Bool → St
  | _, [] => 0#32
  | k, b :: l => (top b >>> k) ^^^ word (k + 1) l

theorem T_shift (k : Nat) (hk : k < 31) (b : Bool) : T (top b >>> (k + 1)) = top b >>> k := by
  cases b
  · simp [top, T_zero]
  · have : ∀ k : Fin 31, T (top true >>> (k.val + 1)) = top true >>> k.val := by decide
    exact this ⟨k, hk⟩
theorem T_word (l : List Bool) : ∀ k : Nat, k + l.length ≤ 31 → T (word (k + 1) l) = word k l := by
  induction l with
  | nil => intro k _; simp [word, T_zero]
  | cons b l ih =>
    intro k h
    simp only [List.length_cons] at h
    simp only [word]
    rw [T_xor, T_shift k (by omega), ih (k + 1) (by omega)]

/-- up to 32 steps are so many by the bit 0, of the state and the bits together -/
theorem steps_word (l : List Bool) : ∀ s : St, l.length ≤ 32 → stepsB s l = Tn l.length (s ^^^ word 0 l) := by
  induction l with
  | nil => intro s _; simp [stepsB, Tn, word]
  | cons b l ih =>
    intro s h
    simp only [List.length_cons] at h
    rw [stepsB, List.foldl_cons, ← stepsB, ih _ (by omega)]
    simp only [word, List.length_cons, BitVec.ushiftRight_zero]
    rw [← Tn_succ, ← BitVec.xor_assoc, T_xor, ← stepB, T_word l 0 (by omega)]

theorem steps_append (s : St) (a b : List Bool) : stepsB s (a ++ b) = stepsB (stepsB s a) b := by simp [stepsB]
theorem bitsL_append (a b : List UInt8) : bitsL (a ++ b) = bitsL a ++ bitsL b := by simp [bitsL]
theorem more_append (s : St) (a b : List UInt8) : moreS s (a ++ b) = moreS (moreS s a) b := by unfold moreS; rw [bitsL_append, steps_append]
theorem bitsU_length (x : UInt8) : (bitsU x).length = 8 := rfl
theorem bitsL_length (l : List UInt8) : (bitsL l).length = 8 * l.length := by
  induction l with
  | nil => rfl
  | cons x l ih => simp only [bitsL, List.flatMap_cons, List.length_append, List.length_cons] at *; rw [ih, bitsU_length]; omega

/-- bit by bit, exclusive or -/
def xorL (a b : List Bool) : List Bool := List.zipWith (· ^^ ·) a b
theorem steps_xor : ∀ (a b : List Bool) (s s' : St), a.length = b.length → stepsB (s ^^^ s') (xorL a b) = stepsB s a ^^^ stepsB s' b
  | [], [], _, _, _ => rfl
  | [], _ :: _, _, _, h => by simp at h
  | _ :: _, [], _, _, h => by simp at h
  | x :: a, y :: b, s, s', h => by
    have hl : a.length = b.length := by simpa using h
    simp only [stepsB, xorL, List.zipWith_cons_cons, List.foldl_cons]
    rw [step_xor]
    exact steps_xor a b _ _ hl
theorem bitsU_xor (x y : UInt8) : bitsU (x ^^^ y) = xorL (bitsU x) (bitsU y) := by
  simp [bitsU, xorL]
theorem bitsL_xor : ∀ (a b : List UInt8), a.length = b.length → bitsL (List.zipWith (· ^^^ ·) a b) = xorL (bitsL a) (bitsL b)
  | [], [], _ => rfl
  | [], _ :: _, h => by simp at h
  | _ :: _, [], h => by simp at h
  | x :: a, y :: b, h => by
    have hl : a.length = b.length := by simpa using h
    have ih := bitsL_xor a b hl
    simp only [bitsL, List.zipWith_cons_cons, List.flatMap_cons] at *
    rw [ih, bitsU_xor]
    simp only [xorL]
    rw [List.zipWith_append (by simp [bitsU_length])]

/-! by bytes, with the table -/
def tabS (x : UInt8) : St := Tn 8 (x.toBitVec.zeroExtend 32 <<< 24)
theorem word_bitsU (x : UInt8) : word 0 (bitsU x) = x.toBitVec.zeroExtend 32 <<< 24 := by
  have : ∀ y : BitVec 8, word 0 (bitsU ⟨y⟩) = y.zeroExtend 32 <<< 24 := by decide +kernel
  exact this x.toBitVec
theorem T_low (v : St) (h : v.msb = false) : T v = v <<< 1 := by unfold T; rw [h]; simp
theorem T_of_shift (v : St) (k : Nat) (h : (v <<< k).msb = false) : T (v <<< k) = v <<< (k + 1) := by
  rw [T_low _ h, ← BitVec.shiftLeft_add]
theorem Tn_low (s : St) : Tn 8 (s &&& 0x00FFFFFF#32) = s <<< 8 := by
  have m : ∀ k : Nat, k ≤ 7 → ((s &&& 0x00FFFFFF#32) <<< k).msb = false := by
    intro k hk
    obtain rfl | rfl | rfl | rfl | rfl | rfl | rfl | rfl : k = 0 ∨ k = 1 ∨ k = 2 ∨ k = 3 ∨ k = 4 ∨ k = 5 ∨ k = 6 ∨ k = 7 := by omega
    all_goals simp [BitVec.msb_eq_getLsbD_last]
  have e : ∀ k : Nat, k ≤ 8 → Tn k (s &&& 0x00FFFFFF#32) = (s &&& 0x00FFFFFF#32) <<< k := by
    intro k
    induction k with
    | zero => intro _; simp [Tn]
    | succ k ih => intro hk; rw [Tn, ih (by omega), T_of_shift _ _ (m k (by omega))]
  rw [e 8 (by omega)]
  apply BitVec.eq_of_getLsbD_eq
  intro i hi
  simp only [BitVec.getLsbD_shiftLeft, BitVec.getLsbD_and]
  by_cases h8 : i < 8
  · simp [h8]
  · have : (0x00FFFFFF#32).getLsbD (i - 8) = true := by
      have h : ∀ j : Fin 24, (0x00FFFFFF#32).getLsbD j.val = true := by decide
      exact h ⟨i - 8, by omega⟩
    simp [this]
/-- the byte at the highest places -/
def highU (s : St) : UInt8 := ⟨(s >>> 24).truncate 8⟩
theorem split_high (s : St) (x : UInt8) : s ^^^ (x.toBitVec.zeroExtend 32 <<< 24) = ((highU s ^^^ x).toBitVec.zeroExtend 32 <<< 24) ^^^ (s &&& 0x00FFFFFF#32) := by
  apply BitVec.eq_of_getLsbD_eq
  intro i hi
  simp only [BitVec.getLsbD_xor, BitVec.getLsbD_shiftLeft, BitVec.getLsbD_and, UInt8.toBitVec_xor, BitVec.truncate_eq_setWidth, BitVec.zeroExtend_eq_setWidth, BitVec.getLsbD_setWidth, highU, BitVec.getLsbD_ushiftRight]
  by_cases h : i < 24
  · have e : (0x00FFFFFF#32).getLsbD i = true := by
      have h' : ∀ j : Fin 24, (0x00FFFFFF#32).getLsbD j.val = true := by decide
      exact h' ⟨i, h⟩
    simp [h, e]
  · have e : (0x00FFFFFF#32).getLsbD i = false := by
      have h' : ∀ j : Fin 8, (0x00FFFFFF#32).getLsbD (24 + j.val) = false := by decide
      have := h' ⟨i - 24, by omega⟩
      rwa [show 24 + (i - 24) = i by omega] at this
    have h1 : i - 24 < 8 := by omega
    have h2 : i - 24 < 32 := by omega
    have h3 : 24 + (i - 24) = i := by omega
    have e' : (0x00FFFFFF#32)[i] = false := by rw [← BitVec.getLsbD_eq_getElem hi]; exact e
    simp [h, e, e', hi, h1, h2, h3]
theorem more_byte (s : St) (x : UInt8) : moreS s [x] = (s <<< 8) ^^^ tabS (highU s ^^^ x) := by
  unfold moreS
  rw [show bitsL [x] = bitsU x by simp [bitsL], steps_word _ _ (by simp [bitsU]), bitsU_length, word_bitsU, split_high, Tn_xor, Tn_low, ← tabS, BitVec.xor_comm]
theorem more_cons (s : St) (x : UInt8) (l : List UInt8) : moreS s (x :: l) = moreS (moreS s [x]) l := more_append s [x] l

/-! as numbers -/
theorem T_nat (s : St) : (T s).toNat = (s.toNat * 2 % 4294967296) ^^^ (s.toNat / 2147483648 * 79764919) := by
  unfold T
  have hs := s.isLt
  rw [BitVec.toNat_xor, BitVec.toNat_shiftLeft, Nat.shiftLeft_eq]
  have hm : s.msb = decide (2147483648 ≤ s.toNat) := by rw [BitVec.msb_eq_decide]
  rw [hm]
  by_cases h : 2147483648 ≤ s.toNat
  · rw [show s.toNat / 2147483648 = 1 by omega]; simp [h, feed]
  · rw [show s.toNat / 2147483648 = 0 by omega]; simp [h]
theorem T_lt (s : St) : (T s).toNat < 4294967296 := (T s).isLt
def tabN (k : Nat) : Nat := (Tn 8 (BitVec.ofNat 32 k <<< 24)).toNat
theorem tabN_lt (k : Nat) : tabN k < 4294967296 := (Tn 8 (BitVec.ofNat 32 k <<< 24)).isLt
theorem tabN_of (x : UInt8) : tabN x.toNat = (tabS x).toNat := by
  have h : BitVec.ofNat 32 x.toNat = x.toBitVec.zeroExtend 32 := by
    apply BitVec.eq_of_toNat_eq
    rw [BitVec.toNat_ofNat, BitVec.zeroExtend_eq_setWidth, BitVec.toNat_setWidth]
    rfl
  rw [tabN, tabS, h]
theorem start_nat (k : Nat) (h : k < 256) : (BitVec.ofNat 32 k <<< 24).toNat = k * 16777216 := by
  have e : (BitVec.ofNat 32 k).toNat = k := by rw [BitVec.toNat_ofNat]; exact Nat.mod_eq_of_lt (by omega)
  rw [BitVec.toNat_shiftLeft, e, Nat.shiftLeft_eq]
  exact Nat.mod_eq_of_lt (by omega)
theorem highU_nat (s : St) : (highU s).toNat = s.toNat / 16777216 := by
  have hs := s.isLt
  have e : (highU s).toNat = ((s >>> 24).truncate 8).toNat := rfl
  rw [e, BitVec.truncate_eq_setWidth, BitVec.toNat_setWidth, BitVec.toNat_ushiftRight, Nat.shiftRight_eq_div_pow]
  exact Nat.mod_eq_of_lt (by omega)
theorem more_nat (s : St) (x : UInt8) : (moreS s [x]).toNat = (s.toNat * 256 % 4294967296) ^^^ tabN (s.toNat / 16777216 ^^^ x.toNat) := by
  have hh : (highU s ^^^ x).toNat = s.toNat / 16777216 ^^^ x.toNat := by rw [UInt8.toNat_xor, highU_nat]
  have h2 : (s <<< 8).toNat = s.toNat * 256 % 4294967296 := by rw [BitVec.toNat_shiftLeft, Nat.shiftLeft_eq]
  rw [more_byte, BitVec.toNat_xor, h2, ← hh, tabN_of]
end Go.Proofs.YtjfmkfhjbdiojaaGreat
