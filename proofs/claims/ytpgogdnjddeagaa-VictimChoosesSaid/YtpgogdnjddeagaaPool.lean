/-
  Layer 11, the program's calls: a pool by contracts.
-/
import Derived.Test.YtpgogdnjddeagaaKitD
namespace Go.Proofs.Ytpgogdnjddeagaa
set_option linter.unusedSimpArgs false
set_option linter.unusedVariables false
open Go.RowKit

/-- a pool lies at block p, its blocks' states and wears at block q -/
structure PoolAt (w : World) (p q : Nat) (L : List (Int × Int)) : Prop where
  head : w.heap[p]? = some (.cells #[.slice (some ⟨q, 0, none⟩) L.length L.length] 77 (0, 0))
  row : w.heap[q]? = some (.cells (flat2 L).toArray 70 (0, 0))
  ne : p ≠ q
theorem PoolAt.below {w w' : World} {p q : Nat} {L : List (Int × Int)} (h : PoolAt w p q L) (hb : Below w.heap.size w w') : PoolAt w' p q L :=
  ⟨by rw [hb.block p (heap_lt h.head)]; exact h.head, by rw [hb.block q (heap_lt h.row)]; exact h.row, h.ne⟩
theorem PoolAt.drew {w : World} {p q : Nat} {L : List (Int × Int)} (h : PoolAt w p q L) : PoolAt w.drew p q L := ⟨h.head, h.row, h.ne⟩
theorem PoolAt.cells {w : World} {p q : Nat} {L : List (Int × Int)} (h : PoolAt w p q L) :
    w.cell? ⟨p, 0, none⟩ = some (.slice (some ⟨q, 0, none⟩) L.length L.length) ∧ w.frozen? ⟨p, 0, none⟩ = false := ⟨by rw [cell_of_block h.head]; rfl, frozen_of_block h.head 0⟩
theorem PoolAt.at {w : World} {p q : Nat} {L : List (Int × Int)} (h : PoolAt w p q L) (i : Nat) (hi : i < L.length) :
    w.cell? ⟨q, i * 2, none⟩ = some (.int .i64 (L.getD i (0, 0)).1) ∧ w.cell? ⟨q, i * 2 + 1, none⟩ = some (.int .i64 (L.getD i (0, 0)).2) ∧ w.frozen? ⟨q, i * 2, none⟩ = false ∧ w.frozen? ⟨q, i * 2 + 1, none⟩ = false :=
  ⟨by rw [cell_of_block h.row]; simpa using flat2_fst L i hi, by rw [cell_of_block h.row]; simpa using flat2_snd L i hi, frozen_of_block h.row _, frozen_of_block h.row _⟩
theorem PoolAt.setFst {w : World} {p q : Nat} {L : List (Int × Int)} (h : PoolAt w p q L) (i : Nat) (hi : i < L.length) (v : Int) : PoolAt (w.setCell ⟨q, i * 2, none⟩ (.int .i64 v)) p q (L.set i (v, (L.getD i (0, 0)).2)) :=
  ⟨by rw [block_setCell_other (Ne.symm h.ne), h.head]; simp, by rw [block_setCell h.row, ← flat2_set_fst L i v hi]; simp, h.ne⟩
theorem PoolAt.setSnd {w : World} {p q : Nat} {L : List (Int × Int)} (h : PoolAt w p q L) (i : Nat) (hi : i < L.length) (v : Int) : PoolAt (w.setCell ⟨q, i * 2 + 1, none⟩ (.int .i64 v)) p q (L.set i ((L.getD i (0, 0)).1, v)) :=
  ⟨by rw [block_setCell_other (Ne.symm h.ne), h.head]; simp, by rw [block_setCell h.row, ← flat2_set_snd L i v hi]; simp, h.ne⟩

theorem at_nil (i : Int) (w : World) : Calls Try.prog 33 #[.pointer none, .int .i64 i] w fun e w' => e = .returned (.tuple #[.pointer none, .int .i64 1]) ∧ w = w' := by
  go_enter Try.func33, Try.ntmps33
  go_wp2
  go_ret2
  exact ⟨rfl, rfl⟩
theorem at_no (p q : Nat) (L : List (Int × Int)) (i : Int) (hi : i < 0 ∨ (L.length : Int) ≤ i) (w : World) (h : PoolAt w p q L) :
    Calls Try.prog 33 #[.pointer (some ⟨p, 0, none⟩), .int .i64 i] w fun e w' => e = .returned (.tuple #[.pointer none, .int .i64 3]) ∧ w = w' := by
  obtain ⟨c0, _⟩ := h.cells
  rcases hi with hi | hi
  · go_enter Try.func33, Try.ntmps33
    go_wp2
    go_ret2
    exact ⟨rfl, rfl⟩
  · have h0 : ¬ i < 0 := by omega
    go_enter Try.func33, Try.ntmps33
    go_wp2
    go_ret2
    exact ⟨rfl, rfl⟩
theorem at_yes (p q : Nat) (L : List (Int × Int)) (i : Nat) (hi : i < L.length) (w : World) (h : PoolAt w p q L) :
    Calls Try.prog 33 #[.pointer (some ⟨p, 0, none⟩), .int .i64 (i : Int)] w fun e w' => e = .returned (.tuple #[.pointer (some ⟨q, i * 2, none⟩), .int .i64 0]) ∧ w = w' := by
  obtain ⟨c0, _⟩ := h.cells
  go_enter Try.func33, Try.ntmps33
  go_wp2
  go_ret2
  exact ⟨rfl, rfl⟩

/-- which number a block has, of a pool: nobody's: 0 -/
def fstZ (L : List (Int × Int)) (i : Int) : Int := if 0 ≤ i ∧ i < L.length then (L.getD i.toNat (0, 0)).1 else 0
def sndZ (L : List (Int × Int)) (i : Int) : Int := if 0 ≤ i ∧ i < L.length then (L.getD i.toNat (0, 0)).2 else 0
theorem state_any (p q : Nat) (L : List (Int × Int)) (i : Int) (w : World) (h : PoolAt w p q L) :
    Calls Try.prog 14 #[.pointer (some ⟨p, 0, none⟩), .int .i64 i] w fun e w' => e = .returned (.int .i64 (fstZ L i)) ∧ w = w' := by
  have H := hide h
  by_cases hi : 0 ≤ i ∧ i < L.length
  · obtain ⟨i0, i1⟩ := hi
    obtain ⟨n, rfl⟩ := Int.eq_ofNat_of_zero_le i0
    have hn : n < L.length := by omega
    obtain ⟨c0, c1, _, _⟩ := h.at n hn
    have HZ := hide (show (L.getD n (0, 0)).1 = fstZ L n by rw [fstZ, if_pos ⟨i0, i1⟩, Int.toNat_natCast])
    generalize (L.getD n (0, 0)).1 = x at *
    generalize fstZ L n = z at *
    clear h
    go_enter Try.func14, Try.ntmps14
    go_wp2_with fail
    refine (at_yes p q L n hn _ H.out).mono ?_
    rintro e w1 ⟨rfl, rfl⟩
    go_wp2
    go_ret
    exact ⟨ret_int HZ.out, rfl⟩
  · have HZ := hide (show 0 = fstZ L i by rw [fstZ, if_neg hi])
    generalize fstZ L i = z at *
    have hi' : i < 0 ∨ (L.length : Int) ≤ i := by omega
    clear h hi
    go_enter Try.func14, Try.ntmps14
    go_wp2_with fail
    refine (at_no p q L i hi' _ H.out).mono ?_
    rintro e w1 ⟨rfl, rfl⟩
    go_wp2
    go_ret
    exact ⟨ret_int HZ.out, rfl⟩
theorem state_nil (i : Int) (w : World) : Calls Try.prog 14 #[.pointer none, .int .i64 i] w fun e w' => e = .returned (.int .i64 0) ∧ w = w' := by
  go_enter Try.func14, Try.ntmps14
  go_wp2_with fail
  refine (at_nil i _).mono ?_
  rintro e w1 ⟨rfl, rfl⟩
  go_wp2
  go_ret
  exact ⟨rfl, rfl⟩
theorem wear_any (p q : Nat) (L : List (Int × Int)) (i : Int) (w : World) (h : PoolAt w p q L) :
    Calls Try.prog 17 #[.pointer (some ⟨p, 0, none⟩), .int .i64 i] w fun e w' => e = .returned (.int .i64 (sndZ L i)) ∧ w = w' := by
  have H := hide h
  by_cases hi : 0 ≤ i ∧ i < L.length
  · obtain ⟨i0, i1⟩ := hi
    obtain ⟨n, rfl⟩ := Int.eq_ofNat_of_zero_le i0
    have hn : n < L.length := by omega
    obtain ⟨c0, c1, _, _⟩ := h.at n hn
    have HZ := hide (show (L.getD n (0, 0)).2 = sndZ L n by rw [sndZ, if_pos ⟨i0, i1⟩, Int.toNat_natCast])
    generalize (L.getD n (0, 0)).2 = x at *
    generalize sndZ L n = z at *
    clear h
    go_enter Try.func17, Try.ntmps17
    go_wp2_with fail
    refine (at_yes p q L n hn _ H.out).mono ?_
    rintro e w1 ⟨rfl, rfl⟩
    go_wp2
    go_ret
    exact ⟨ret_int HZ.out, rfl⟩
  · have HZ := hide (show 0 = sndZ L i by rw [sndZ, if_neg hi])
    generalize sndZ L i = z at *
    have hi' : i < 0 ∨ (L.length : Int) ≤ i := by omega
    clear h hi
    go_enter Try.func17, Try.ntmps17
    go_wp2_with fail
    refine (at_no p q L i hi' _ H.out).mono ?_
    rintro e w1 ⟨rfl, rfl⟩
    go_wp2
    go_ret
    exact ⟨ret_int HZ.out, rfl⟩
theorem wear_nil (i : Int) (w : World) : Calls Try.prog 17 #[.pointer none, .int .i64 i] w fun e w' => e = .returned (.int .i64 0) ∧ w = w' := by
  go_enter Try.func17, Try.ntmps17
  go_wp2_with fail
  refine (at_nil i _).mono ?_
  rintro e w1 ⟨rfl, rfl⟩
  go_wp2
  go_ret
  exact ⟨rfl, rfl⟩

/-- Set: the error's number, and the blocks behind it -/
def setE (L : List (Int × Int)) (i s : Int) : Int := if 0 ≤ i ∧ i < L.length then (if s < 1 ∨ 3 < s then 2 else if (L.getD i.toNat (0, 0)).1 = 3 then 12 else 0) else 3
def setL (L : List (Int × Int)) (i s : Int) : List (Int × Int) := if setE L i s = 0 then L.set i.toNat (s, (L.getD i.toNat (0, 0)).2) else L
def wornE (L : List (Int × Int)) (i n : Int) : Int := if 0 ≤ i ∧ i < L.length then (if n < 0 then 2 else 0) else 3
def wornL (L : List (Int × Int)) (i n : Int) : List (Int × Int) := if wornE L i n = 0 then L.set i.toNat ((L.getD i.toNat (0, 0)).1, n) else L

theorem set_any (p q : Nat) (L : List (Int × Int)) (i s : Int) (w : World) (h : PoolAt w p q L) :
    Calls Try.prog 22 #[.pointer (some ⟨p, 0, none⟩), .int .i64 i, .int .i64 s] w fun e w' => e = .returned (.int .i64 (setE L i s)) ∧ PoolAt w' p q (setL L i s) ∧ Only q w w' := by
  have H := hide h
  by_cases hi : 0 ≤ i ∧ i < L.length
  · have hi2 := hi
    obtain ⟨i0, i1⟩ := hi
    obtain ⟨n, rfl⟩ := Int.eq_ofNat_of_zero_le i0
    have hn : n < L.length := by omega
    obtain ⟨c0, c1, f0, f1⟩ := h.at n hn
    have he : setE L n s = if s < 1 ∨ 3 < s then 2 else if (L.getD n (0, 0)).1 = 3 then 12 else 0 := by rw [setE, if_pos hi2, Int.toNat_natCast]
    have hl : setL L n s = if setE L n s = 0 then L.set n (s, (L.getD n (0, 0)).2) else L := by rw [setL, Int.toNat_natCast]
    have hset := h.setFst n hn s
    by_cases hs : s < 1 ∨ 3 < s
    · rw [if_pos hs] at he
      rw [he] at hl
      rw [he, hl, if_neg (by omega)]
      clear h he hl hset
      rcases hs with hs | hs
      · go_enter Try.func22, Try.ntmps22
        go_wp2_with fail
        refine (at_yes p q L n hn _ H.out).mono ?_
        rintro e w1 ⟨rfl, rfl⟩
        go_wp2
        go_ret
        exact ⟨rfl, H.out, Only.refl _ _⟩
      · have hs' : ¬ s < 1 := by omega
        go_enter Try.func22, Try.ntmps22
        go_wp2_with fail
        refine (at_yes p q L n hn _ H.out).mono ?_
        rintro e w1 ⟨rfl, rfl⟩
        go_wp2
        go_ret
        exact ⟨rfl, H.out, Only.refl _ _⟩
    · rw [if_neg hs] at he
      have s1 : 1 ≤ s := by omega
      have s3 : s ≤ 3 := by omega
      by_cases hx : (L.getD n (0, 0)).1 = 3
      · rw [if_pos hx] at he
        rw [he] at hl
        rw [he, hl, if_neg (by omega)]
        rw [hx] at c0
        clear h he hl hset hs hx
        go_enter Try.func22, Try.ntmps22
        go_wp2_with fail
        refine (at_yes p q L n hn _ H.out).mono ?_
        rintro e w1 ⟨rfl, rfl⟩
        go_wp2
        go_ret
        exact ⟨rfl, H.out, Only.refl _ _⟩
      · rw [if_neg hx] at he
        rw [he] at hl
        rw [he, hl, if_pos rfl]
        have HX := hide hset
        have hxx : ((L.getD n (0, 0)).1 == 3) = false := by simp only [beq_eq_false_iff_ne]; exact hx
        generalize (L.getD n (0, 0)).1 = x at *
        clear h he hl hset hs hx
        go_enter Try.func22, Try.ntmps22
        go_wp2_with fail
        refine (at_yes p q L n hn _ H.out).mono ?_
        rintro e w1 ⟨rfl, rfl⟩
        go_wp2
        go_ret
        exact ⟨rfl, HX.out, Only.setCell _ _ _⟩
  · have he : setE L i s = 3 := by rw [setE, if_neg hi]
    have hl : setL L i s = L := by rw [setL, he]; rfl
    rw [he, hl]
    have hi' : i < 0 ∨ (L.length : Int) ≤ i := by omega
    clear h he hl hi
    go_enter Try.func22, Try.ntmps22
    go_wp2_with fail
    refine (at_no p q L i hi' _ H.out).mono ?_
    rintro e w1 ⟨rfl, rfl⟩
    go_wp2
    go_ret
    exact ⟨rfl, H.out, Only.refl _ _⟩
theorem set_nil (i s : Int) (w : World) : Calls Try.prog 22 #[.pointer none, .int .i64 i, .int .i64 s] w fun e w' => e = .returned (.int .i64 1) ∧ w = w' := by
  go_enter Try.func22, Try.ntmps22
  go_wp2_with fail
  refine (at_nil i _).mono ?_
  rintro e w1 ⟨rfl, rfl⟩
  go_wp2
  go_ret
  exact ⟨rfl, rfl⟩
theorem worn_any (p q : Nat) (L : List (Int × Int)) (i s : Int) (w : World) (h : PoolAt w p q L) :
    Calls Try.prog 21 #[.pointer (some ⟨p, 0, none⟩), .int .i64 i, .int .i64 s] w fun e w' => e = .returned (.int .i64 (wornE L i s)) ∧ PoolAt w' p q (wornL L i s) ∧ Only q w w' := by
  have H := hide h
  by_cases hi : 0 ≤ i ∧ i < L.length
  · have hi2 := hi
    obtain ⟨i0, i1⟩ := hi
    obtain ⟨n, rfl⟩ := Int.eq_ofNat_of_zero_le i0
    have hn : n < L.length := by omega
    obtain ⟨c0, c1, f0, f1⟩ := h.at n hn
    have he : wornE L n s = if s < 0 then 2 else 0 := by rw [wornE, if_pos hi2]
    have hl : wornL L n s = if wornE L n s = 0 then L.set n ((L.getD n (0, 0)).1, s) else L := by rw [wornL, Int.toNat_natCast]
    have hset := h.setSnd n hn s
    by_cases hs : s < 0
    · rw [if_pos hs] at he
      rw [he] at hl
      rw [he, hl, if_neg (by omega)]
      clear h he hl hset
      go_enter Try.func21, Try.ntmps21
      go_wp2_with fail
      refine (at_yes p q L n hn _ H.out).mono ?_
      rintro e w1 ⟨rfl, rfl⟩
      go_wp2
      go_ret
      exact ⟨rfl, H.out, Only.refl _ _⟩
    · rw [if_neg hs] at he
      rw [he] at hl
      rw [he, hl, if_pos rfl]
      have HX := hide hset
      generalize (L.getD n (0, 0)).2 = x at *
      clear h he hl hset
      go_enter Try.func21, Try.ntmps21
      go_wp2_with fail
      refine (at_yes p q L n hn _ H.out).mono ?_
      rintro e w1 ⟨rfl, rfl⟩
      go_wp2
      go_ret
      exact ⟨rfl, HX.out, Only.setCell _ _ _⟩
  · have he : wornE L i s = 3 := by rw [wornE, if_neg hi]
    have hl : wornL L i s = L := by rw [wornL, he]; rfl
    rw [he, hl]
    have hi' : i < 0 ∨ (L.length : Int) ≤ i := by omega
    clear h he hl hi
    go_enter Try.func21, Try.ntmps21
    go_wp2_with fail
    refine (at_no p q L i hi' _ H.out).mono ?_
    rintro e w1 ⟨rfl, rfl⟩
    go_wp2
    go_ret
    exact ⟨rfl, H.out, Only.refl _ _⟩
theorem worn_nil (i s : Int) (w : World) : Calls Try.prog 21 #[.pointer none, .int .i64 i, .int .i64 s] w fun e w' => e = .returned (.int .i64 1) ∧ w = w' := by
  go_enter Try.func21, Try.ntmps21
  go_wp2_with fail
  refine (at_nil i _).mono ?_
  rintro e w1 ⟨rfl, rfl⟩
  go_wp2
  go_ret
  exact ⟨rfl, rfl⟩
end Go.Proofs.Ytpgogdnjddeagaa
