/-
  Layer 4, the program's calls: a reader by contracts.
-/
import Derived.Test.YtbnbfnlfgmlcgaaKitD
import Derived.Test.YtbnbfnlfgmlcgaaBe
--DBG
namespace Go.Proofs.Ytbnbfnlfgmlcgaa
set_option linter.unusedSimpArgs false
set_option linter.unusedVariables false
open Go.RowKit

/-- a reader lies at block r: what is left, and whether it is wrong -/
structure RdAt (w : World) (r : Nat) (s : ByteArray) (bad : Bool) : Prop where
  row : w.heap[r]? = some (.cells #[.string s, .bool bad] 98 (0, 0))
theorem RdAt.below {w w' : World} {r : Nat} {s : ByteArray} {bad : Bool} (h : RdAt w r s bad) (hb : Below w.heap.size w w') : RdAt w' r s bad := ⟨by rw [hb.block r (heap_lt h.row)]; exact h.row⟩
theorem RdAt.only {w w' : World} {r q : Nat} {s : ByteArray} {bad : Bool} (h : RdAt w r s bad) (hb : Only q w w') (hq : r ≠ q) : RdAt w' r s bad := ⟨by rw [hb.block r (heap_lt h.row) hq]; exact h.row⟩
theorem RdAt.cells {w : World} {r : Nat} {s : ByteArray} {bad : Bool} (h : RdAt w r s bad) : w.cell? ⟨r, 0, none⟩ = some (.string s) ∧ w.cell? ⟨r, 1, none⟩ = some (.bool bad) ∧ w.frozen? ⟨r, 0, none⟩ = false ∧ w.frozen? ⟨r, 1, none⟩ = false :=
  ⟨by rw [cell_of_block h.row]; rfl, by rw [cell_of_block h.row]; rfl, frozen_of_block h.row 0, frozen_of_block h.row 1⟩
theorem RdAt.setLeft {w : World} {r : Nat} {s : ByteArray} {bad : Bool} (h : RdAt w r s bad) (t : ByteArray) : RdAt (w.setCell ⟨r, 0, none⟩ (.string t)) r t bad := ⟨by rw [block_setCell h.row]; rfl⟩
theorem RdAt.setBad {w : World} {r : Nat} {s : ByteArray} {bad : Bool} (h : RdAt w r s bad) : RdAt (w.setCell ⟨r, 1, none⟩ (.bool true)) r s true := ⟨by rw [block_setCell h.row]; rfl⟩
theorem RdAt.new (w : World) (s : ByteArray) : RdAt (w.alloc (.cells #[.string s, .bool false] 98)) w.heap.size s false := ⟨heap_new _ _⟩

def noBytes : ByteArray := ⟨#[]⟩
/-- what is taken, what is left, and whether it is wrong -/
def rdTake (s : ByteArray) (bad : Bool) (n : Int) (ok : Bool) : ByteArray × ByteArray × Bool :=
  if bad = true then (⟨#[]⟩, s, true) else if ok = false ∨ (s.size : Int) < n then (⟨#[]⟩, s, true) else (s.extract 0 n.toNat, s.extract n.toNat s.size, false)

theorem read_any (s : ByteArray) (w : World) : Calls Try.prog 10 #[.string s] w fun e w' => e = .returned (.pointer (some ⟨w.heap.size, 0, none⟩)) ∧ RdAt w' w.heap.size s false ∧ Below w.heap.size w w' := by
  go_enter Try.func10, Try.ntmps10
  go_wp2
  go_ret
  exact ⟨rfl, RdAt.new w s, (Below.refl _ _).alloc (Nat.le_refl _) _⟩
theorem wrong_any (r : Nat) (s : ByteArray) (bad : Bool) (w : World) (h : RdAt w r s bad) : Calls Try.prog 31 #[.pointer (some ⟨r, 0, none⟩)] w fun e w' => e = .returned (.bool bad) ∧ w = w' := by
  obtain ⟨c0, c1, _, _⟩ := h.cells
  clear h
  go_enter Try.func31, Try.ntmps31
  go_wp2
  go_ret
  exact ⟨by simp, rfl⟩
theorem wrong_nil (w : World) : Calls Try.prog 31 #[.pointer none] w fun e w' => e = .returned (.bool true) ∧ w = w' := by
  go_enter Try.func31, Try.ntmps31
  go_wp2
  go_ret
  exact ⟨rfl, rfl⟩
theorem left_any (r : Nat) (s : ByteArray) (bad : Bool) (w : World) (h : RdAt w r s bad) : Calls Try.prog 14 #[.pointer (some ⟨r, 0, none⟩)] w fun e w' => e = .returned (.int .i64 (if bad = true then 0 else (s.size : Int))) ∧ w = w' := by
  obtain ⟨c0, c1, _, _⟩ := h.cells
  have HW := hide (wrong_any r s bad w h)
  clear h
  cases bad
  · go_enter Try.func14, Try.ntmps14
    go_wp2_with fail
    refine HW.out.mono ?_
    rintro e w1 ⟨rfl, rfl⟩
    go_wp2
    go_ret
    exact ⟨rfl, rfl⟩
  · go_enter Try.func14, Try.ntmps14
    go_wp2_with fail
    refine HW.out.mono ?_
    rintro e w1 ⟨rfl, rfl⟩
    go_wp2
    go_ret
    exact ⟨rfl, rfl⟩
theorem left_nil (w : World) : Calls Try.prog 14 #[.pointer none] w fun e w' => e = .returned (.int .i64 0) ∧ w = w' := by
  go_enter Try.func14, Try.ntmps14
  go_wp2_with fail
  refine (wrong_nil _).mono ?_
  rintro e w1 ⟨rfl, rfl⟩
  go_wp2
  go_ret
  exact ⟨rfl, rfl⟩
def endE (s : ByteArray) (bad : Bool) : Int := if bad = true ∨ s.size ≠ 0 then 4 else 0
theorem take_any (r : Nat) (s : ByteArray) (bad : Bool) (n : Int) (ok : Bool) (hn : ok = true → 0 ≤ n) (w : World) (h : RdAt w r s bad) :
    Calls Try.prog 53 #[.pointer (some ⟨r, 0, none⟩), .int .i64 n, .bool ok] w fun e w' => e = .returned (.string (rdTake s bad n ok).1) ∧ RdAt w' r (rdTake s bad n ok).2.1 (rdTake s bad n ok).2.2 ∧ Only r w w' := by
  obtain ⟨c0, c1, f0, f1⟩ := h.cells
  have H := hide h
  clear h
  cases bad
  · by_cases hc : ok = false ∨ (s.size : Int) < n
    · have HZ := hide (show rdTake s false n ok = (⟨#[]⟩, s, true) by rw [rdTake, if_neg (by simp), if_pos hc])
      generalize rdTake s false n ok = z at *
      have HB := hide H.out.setBad
      cases ok
      · clear hc hn
        go_enter Try.func53, Try.ntmps53
        go_wp2
        go_ret
        rw [HZ.out]
        exact ⟨rfl, HB.out, Only.setCell _ _ _⟩
      · have hn' : 0 ≤ n := hn rfl
        have hlt : (s.size : Int) < n := by rcases hc with hc | hc; · cases hc
                                            · exact hc
        clear hc hn
        go_enter Try.func53, Try.ntmps53
        go_wp2
        go_ret
        rw [HZ.out]
        exact ⟨rfl, HB.out, Only.setCell _ _ _⟩
    · have hok : ok = true := by cases ok <;> simp at hc ⊢
      subst hok
      obtain ⟨m, rfl⟩ := Int.eq_ofNat_of_zero_le (hn rfl)
      have hm : m ≤ s.size := by omega
      have HZ := hide (show rdTake s false m true = (s.extract 0 m, s.extract m s.size, false) by rw [rdTake, if_neg (by simp), if_neg hc, Int.toNat_natCast])
      generalize rdTake s false m true = z at *
      have HB := hide (H.out.setLeft (s.extract m s.size))
      clear hc hn
      go_enter Try.func53, Try.ntmps53
      go_wp2
      go_ret
      rw [HZ.out]
      exact ⟨rfl, HB.out, Only.setCell _ _ _⟩
  · have HZ := hide (show rdTake s true n ok = (⟨#[]⟩, s, true) by rw [rdTake, if_pos rfl])
    generalize rdTake s true n ok = z at *
    go_enter Try.func53, Try.ntmps53
    go_wp2
    go_ret
    rw [HZ.out]
    exact ⟨rfl, H.out, Only.refl _ _⟩
theorem take_nil (n : Int) (ok : Bool) (w : World) : Calls Try.prog 53 #[.pointer none, .int .i64 n, .bool ok] w fun e w' => e = .returned (.string ⟨#[]⟩) ∧ w = w' := by
  go_enter Try.func53, Try.ntmps53
  go_wp2
  go_ret
  exact ⟨rfl, rfl⟩
theorem rdTake_size (s : ByteArray) (bad : Bool) (n : Int) (ok : Bool) : (rdTake s bad n ok).1.size ≤ s.size := by
  unfold rdTake
  split
  · exact Nat.zero_le _
  · split
    · exact Nat.zero_le _
    · simp; omega
theorem fits_zero (wd : Int) : fitsB (0 : Int).toNat wd = decide (1 ≤ wd ∧ wd ≤ 8) := by
  unfold fitsB
  rw [Bool.eq_iff_iff]
  simp only [decide_eq_true_eq]
  constructor
  · rintro ⟨h1, h2, _⟩; exact ⟨h1, h2⟩
  · rintro ⟨h1, h2⟩; exact ⟨h1, h2, pow256 _⟩
/-- a number's field -/
def rdNum (s : ByteArray) (bad : Bool) (wd : Int) : ByteArray × ByteArray × Bool := rdTake s bad wd (decide (1 ≤ wd ∧ wd ≤ 8))
theorem number_any (r : Nat) (s : ByteArray) (hs : s.size ≤ 9223372036854775807) (bad : Bool) (wd : Int) (w : World) (h : RdAt w r s bad) :
    Calls Try.prog 32 #[.pointer (some ⟨r, 0, none⟩), .int .i64 wd] w fun e w' => e = .returned (.int .u64 (getN (last8 (rdNum s bad wd).1.data.toList) : Int)) ∧ RdAt w' r (rdNum s bad wd).2.1 (rdNum s bad wd).2.2 ∧ Only r w w' := by
  have hf := fun W => fits_any 0 (by omega) wd W
  rw [fits_zero] at hf
  have ht := fun W (hh : RdAt W r s bad) => take_any r s bad wd (decide (1 ≤ wd ∧ wd ≤ 8)) (fun h => by have := of_decide_eq_true h; omega) W hh
  have hsz := rdTake_size s bad wd (decide (1 ≤ wd ∧ wd ≤ 8))
  show Calls _ _ _ _ (fun e w' => e = .returned (.int .u64 (getN (last8 (rdTake s bad wd (decide (1 ≤ wd ∧ wd ≤ 8))).1.data.toList) : Int)) ∧ RdAt w' r (rdTake s bad wd (decide (1 ≤ wd ∧ wd ≤ 8))).2.1 (rdTake s bad wd (decide (1 ≤ wd ∧ wd ≤ 8))).2.2 ∧ Only r w w')
  generalize rdTake s bad wd (decide (1 ≤ wd ∧ wd ≤ 8)) = z at *
  obtain ⟨a, b, c⟩ := z
  generalize decide (1 ≤ wd ∧ wd ≤ 8) = ok at *
  have HF := hide hf
  have HT := hide (ht w h)
  have HSZ := hide (show a.size ≤ 9223372036854775807 from Nat.le_trans hsz hs)
  clear hf ht h hsz
  go_enter Try.func32, Try.ntmps32
  go_wp2_with fail
  refine (HF.out _).mono ?_
  rintro e w1 ⟨rfl, rfl⟩
  go_wp2_with fail
  refine HT.out.mono ?_
  rintro e w2 ⟨rfl, hr, ho⟩
  have HR := hide hr
  have HO := hide ho
  clear hr ho
  go_wp2_with fail
  refine (get_any _ HSZ.out _).mono ?_
  rintro e w3 ⟨rfl, hb⟩
  go_wp2
  go_ret
  exact ⟨rfl, HR.out.below hb, HO.out.trans (Only.of_below hb)⟩
theorem number_nil (wd : Int) (w : World) : Calls Try.prog 32 #[.pointer none, .int .i64 wd] w fun e w' => e = .returned (.int .u64 0) ∧ Below w.heap.size w w' := by
  have hf := fun W => fits_any 0 (by omega) wd W
  have HF := hide hf
  clear hf
  go_enter Try.func32, Try.ntmps32
  go_wp2_with fail
  refine (HF.out _).mono ?_
  rintro e w1 ⟨rfl, rfl⟩
  go_wp2_with fail
  refine (take_nil _ _ _).mono ?_
  rintro e w2 ⟨rfl, rfl⟩
  go_wp2_with fail
  refine (get_any ⟨#[]⟩ (by decide) _).mono ?_
  rintro e w3 ⟨rfl, hb⟩
  go_wp2
  go_ret
  exact ⟨rfl, hb⟩
end Go.Proofs.Ytbnbfnlfgmlcgaa
