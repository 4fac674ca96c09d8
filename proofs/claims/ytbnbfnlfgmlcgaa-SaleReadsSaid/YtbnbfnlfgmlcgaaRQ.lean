/-
  A reader by what is left, if nothing was wrong (numbers and texts).
-/
import Derived.Test.YtbnbfnlfgmlcgaaPoRT
import Derived.Test.YtbnbfnlfgmlcgaaCurW
import Derived.Test.YtbnbfnlfgmlcgaaCur6
namespace Go.Proofs.Ytbnbfnlfgmlcgaa
set_option linter.unusedSimpArgs false
set_option linter.unusedVariables false
open Go.RowKit Go.WideShapes Go.ChangeShapes Go.ChangeAt Go.Deep
/-- a reader at p: what is left is l, if nothing was wrong -/
def RQ (W : World) (p : Nat) (ok : Bool) (l : List UInt8) : Prop := ∃ s, RdAt W p s (!ok) ∧ (ok = true → s = bs l) ∧ s.size ≤ 1000000
theorem RQ.below {W W' : World} {p : Nat} {ok : Bool} {l : List UInt8} (h : RQ W p ok l) (hb : Below W.heap.size W W') : RQ W' p ok l := by
  obtain ⟨s, h1, h2⟩ := h
  exact ⟨s, h1.below hb, h2⟩
theorem RQ.lt {W : World} {p : Nat} {ok : Bool} {l : List UInt8} (h : RQ W p ok l) : p < W.heap.size := by
  obtain ⟨s, h1, h2⟩ := h
  exact heap_lt h1.row
theorem RQ.other {W : World} {p : Nat} {ok : Bool} {l : List UInt8} (h : RQ W p ok l) {g : Nat} (hg : g ≠ p) (j : Nat) (v : Value) : RQ (W.setCell ⟨g, j, none⟩ v) p ok l := by
  obtain ⟨s, h1, h2⟩ := h
  exact ⟨s, ⟨(block_setCell_other hg j v).trans h1.row⟩, h2⟩
theorem Only.new {p A : Nat} {w W : World} (h : Only p w W) (hA : w.heap.size ≤ A) (j : Nat) (v : Value) : Only p w (W.setCell ⟨A, j, none⟩ v) :=
  ⟨h.os, h.tape, h.output, by simpa using h.size, fun k hk hp => (block_setCell_other (show A ≠ k by omega) j v).trans (h.block k hk hp)⟩
theorem Only.alloc {p : Nat} {w W : World} (h : Only p w W) (o : Obj) : Only p w (W.alloc o) := h.trans (.of_below ((Below.refl _ _).alloc (Nat.le_refl _) _))
def vN (ok : Bool) (l : List UInt8) (w : Nat) : Nat := if ok = true ∧ w ≤ l.length then getN (l.take w) else 0
theorem vN_lt (ok : Bool) (l : List UInt8) (w : Nat) : vN ok l w < 256 ^ w := by
  unfold vN
  split
  · refine Nat.lt_of_lt_of_le (getN_lt _) (Nat.pow_le_pow_right (by decide) ?_)
    rw [List.length_take]; omega
  · exact Nat.pow_pos (by decide)
theorem bs_ext (l : List UInt8) (a b : Nat) : (bs l).extract a b = bs ((l.drop a).take (b - a)) := by
  apply ByteArray.ext
  simp [bs, List.extract_eq_take_drop]
theorem bs_rest (l : List UInt8) (n : Nat) : (bs l).extract n (bs l).size = bs (l.drop n) := by
  rw [bs_ext, List.take_of_length_le (by rw [List.length_drop, bs_size]; exact Nat.le_refl _)]
theorem rdNum_list (l : List UInt8) (w : Nat) (h1 : 1 ≤ w) (h8 : w ≤ 8) (h : w ≤ l.length) : rdNum (bs l) false (w : Int) = (bs (l.take w), bs (l.drop w), false) := by
  rw [rdNum_ok (bs l) w h1 h8 (by rw [bs_size]; exact h)]
  rw [bs_rest, bs_ext, List.drop_zero, Nat.sub_zero]
theorem last8_take (l : List UInt8) (w : Nat) (h8 : w ≤ 8) : last8 (l.take w) = l.take w := by
  unfold last8
  have : (l.take w).length ≤ 8 := by rw [List.length_take]; omega
  rw [show (l.take w).length - 8 = 0 by omega, List.drop_zero]
def RNIs (p : Nat) (ok : Bool) (l : List UInt8) (w : Nat) (v : Value) (W : World) (e : Ending) (w' : World) : Prop := e = .returned v ∧ RQ w' p (ok && decide (w ≤ l.length)) (l.drop w) ∧ Only p W w'
theorem rq_number (p : Nat) (ok : Bool) (l : List UInt8) (w : Nat) (h1 : 1 ≤ w) (h8 : w ≤ 8) (W : World) (h : RQ W p ok l) :
    Calls Try.prog 32 #[.pointer (some ⟨p, 0, none⟩), .int .i64 (w : Int)] W (RNIs p ok l w (.int .u64 (vN ok l w : Int)) W) := by
  obtain ⟨s, hr, hs, hz⟩ := h
  refine (number_any p s (by omega) (!ok) (w : Int) W hr).mono fun e w' ⟨h0, hr', ho⟩ => ?_
  cases ok with
  | false =>
    rw [show (!false) = true from rfl, rdNum_bad] at h0 hr'
    refine ⟨?_, ⟨s, hr', fun h => (by cases h), hz⟩, ho⟩
    rw [h0, show vN false l w = 0 from if_neg (by simp)]
    rfl
  | true =>
    rw [hs rfl] at h0 hr' hz
    rw [show (!true) = false from rfl] at h0 hr'
    by_cases hw : w ≤ l.length
    · rw [rdNum_list l w h1 h8 hw] at h0 hr'
      dsimp only at h0 hr'
      rw [bs_toList, last8_take _ _ h8] at h0
      refine ⟨?_, ⟨bs (l.drop w), ?_, fun _ => rfl, by rw [bs_size, List.length_drop]; rw [bs_size] at hz; omega⟩, ho⟩
      · rw [h0, show vN true l w = getN (l.take w) from if_pos ⟨rfl, hw⟩]
      · rw [decide_eq_true hw]; exact hr'
    · rw [rdNum_less (bs l) w (by rw [bs_size]; omega)] at h0 hr'
      dsimp only at h0 hr'
      refine ⟨?_, ⟨bs l, ?_, fun h => ?_, hz⟩, ho⟩
      · rw [h0, show vN true l w = 0 from if_neg (fun h => hw h.2)]; rfl
      · rw [decide_eq_false hw]; exact hr'
      · rw [decide_eq_false hw] at h; cases h
def vI (ok : Bool) (l : List UInt8) : Int := wrap64 (vN ok l 8 : Int)
theorem vI_in (ok : Bool) (l : List UInt8) : -9223372036854775808 ≤ vI ok l ∧ vI ok l ≤ 9223372036854775807 := by
  unfold vI wrap64
  omega
theorem vI_zero : wrap64 ((0 : Nat) : Int) = 0 := by unfold wrap64; omega
theorem rq_signed (p : Nat) (ok : Bool) (l : List UInt8) (W : World) (h : RQ W p ok l) :
    Calls Try.prog 55 #[.pointer (some ⟨p, 0, none⟩)] W (RNIs p ok l 8 (.int .i64 (vI ok l)) W) := by
  obtain ⟨s, hr, hs, hz⟩ := h
  refine (signed_any p s (by omega) (!ok) W hr).mono fun e w' ⟨h0, hr', ho⟩ => ?_
  cases ok with
  | false =>
    rw [show (!false) = true from rfl, rdNum_bad] at h0 hr'
    refine ⟨?_, ⟨s, hr', fun h => (by cases h), hz⟩, ho⟩
    rw [h0, show vI false l = wrap64 ((0 : Nat) : Int) from by unfold vI; rw [show vN false l 8 = 0 from if_neg (by simp)]]
    rfl
  | true =>
    rw [hs rfl] at h0 hr' hz
    rw [show (!true) = false from rfl] at h0 hr'
    by_cases hw : 8 ≤ l.length
    · have e8 := rdNum_list l 8 (by decide) (by decide) hw
      rw [show ((8 : Nat) : Int) = 8 from rfl] at e8
      rw [e8] at h0 hr'
      dsimp only at h0 hr'
      rw [bs_toList, last8_take _ _ (by decide)] at h0
      refine ⟨?_, ⟨bs (l.drop 8), ?_, fun _ => rfl, by rw [bs_size, List.length_drop]; rw [bs_size] at hz; omega⟩, ho⟩
      · rw [h0, show vI true l = wrap64 (getN (l.take 8) : Int) from by unfold vI; rw [show vN true l 8 = getN (l.take 8) from if_pos ⟨rfl, hw⟩]]
      · rw [decide_eq_true hw]; exact hr'
    · have e8 := rdNum_less (bs l) 8 (by rw [bs_size]; omega)
      rw [show ((8 : Nat) : Int) = 8 from rfl] at e8
      rw [e8] at h0 hr'
      dsimp only at h0 hr'
      refine ⟨?_, ⟨bs l, ?_, fun h => ?_, hz⟩, ho⟩
      · rw [h0, show vI true l = wrap64 ((0 : Nat) : Int) from by unfold vI; rw [show vN true l 8 = 0 from if_neg (fun h => hw h.2)]]; rfl
      · rw [decide_eq_false hw]; exact hr'
      · rw [decide_eq_false hw] at h; cases h
theorem rq_new (l : List UInt8) (hl : l.length ≤ 1000000) (w : World) : Calls Try.prog 10 #[.string (bs l)] w fun e w' => e = .returned (.pointer (some ⟨w.heap.size, 0, none⟩)) ∧ RQ w' w.heap.size true l ∧ Below w.heap.size w w' :=
  (read_any (bs l) w).mono fun e w' ⟨h0, h1, h2⟩ => ⟨h0, ⟨bs l, h1, fun _ => rfl, by rw [bs_size]; exact hl⟩, h2⟩
end Go.Proofs.Ytbnbfnlfgmlcgaa
