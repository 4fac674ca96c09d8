/-
  A reader by what is left, if nothing was wrong (numbers and texts).
-/
import Derived.Test.YtehjhldijhoeeaaCurW
import Derived.Test.YtehjhldijhoeeaaCur6
namespace Go.Proofs.Ytehjhldijhoeeaa
set_option linter.unusedSimpArgs false
set_option linter.unusedVariables false
open Go.RowKit Go.WideShapes Go.ChangeShapes Go.ChangeAt Go.Deep
theorem rdNum_ok (s : ByteArray) (wd : Nat) (h1 : 1 ≤ wd) (h8 : wd ≤ 8) (h : wd ≤ s.size) : rdNum s false wd = (s.extract 0 wd, s.extract wd s.size, false) := by
  unfold rdNum rdTake
  rw [if_neg (by decide), decide_eq_true (by omega), if_neg (by simp; omega), Int.toNat_natCast]
theorem rdNum_less (s : ByteArray) (wd : Nat) (h : s.size < wd) : rdNum s false wd = (⟨#[]⟩, s, true) := by
  unfold rdNum rdTake
  rw [if_neg (by decide), if_pos (.inr (by omega))]
theorem rdNum_bad (s : ByteArray) (wd : Int) : rdNum s true wd = (⟨#[]⟩, s, true) := by
  unfold rdNum rdTake
  rw [if_pos rfl]
/-- a reader at p: what is left is l, if nothing was wrong -/
def RQ (W : World) (p : Nat) (ok : Bool) (l : List UInt8) : Prop := ∃ s, RdAt W p s (!ok) ∧ (ok = true → s = bs l) ∧ s.size ≤ 1000000
theorem RQ.below {W W' : World} {p : Nat} {ok : Bool} {l : List UInt8} (h : RQ W p ok l) (hb : Below W.heap.size W W') : RQ W' p ok l := by
  obtain ⟨s, h1, h2⟩ := h
  exact ⟨s, h1.below hb, h2⟩
theorem RQ.lt {W : World} {p : Nat} {ok : Bool} {l : List UInt8} (h : RQ W p ok l) : p < W.heap.size := by
  obtain ⟨s, h1, h2⟩ := h
  exact heap_lt h1.row
theorem RQ.other {W : World} {p : Nat} {ok : Bool} {l : List UInt8} (h : RQ W p ok l) {g : Nat} (hg : g ≠ p) (j : Nat) (v : Value) : RQ (W.setCell ⟨g, j, none⟩ v) p ok l := by
  obtain ⟨s, h1, h2⟩ := h
  exact ⟨s, ⟨(block_setCell_other hg j v).trans h1.row⟩, h2⟩
theorem Only.new {p A : Nat} {w W : World} (h : Only p w W) (hA : w.heap.size ≤ A) (j : Nat) (v : Value) : Only p w (W.setCell ⟨A, j, none⟩ v) :=
  ⟨h.os, h.tape, h.output, by simpa using h.size, fun k hk hp => (block_setCell_other (show A ≠ k by omega) j v).trans (h.block k hk hp)⟩
theorem Only.alloc {p : Nat} {w W : World} (h : Only p w W) (o : Obj) : Only p w (W.alloc o) := h.trans (.of_below ((Below.refl _ _).alloc (Nat.le_refl _) _))
def vN (ok : Bool) (l : List UInt8) (w : Nat) : Nat := if ok = true ∧ w ≤ l.length then getN (l.take w) else 0
theorem vN_lt (ok : Bool) (l : List UInt8) (w : Nat) : vN ok l w < 256 ^ w := by
  unfold vN
  split
  · refine Nat.lt_of_lt_of_le (getN_lt _) (Nat.pow_le_pow_right (by decide) ?_)
    rw [List.length_take]; omega
  · exact Nat.pow_pos (by decide)
theorem bs_ext (l : List UInt8) (a b : Nat) : (bs l).extract a b = bs ((l.drop a).take (b - a)) := by
  apply ByteArray.ext
  simp [bs, List.extract_eq_take_drop]
theorem bs_rest (l : List UInt8) (n : Nat) : (bs l).extract n (bs l).size = bs (l.drop n) := by
  rw [bs_ext, List.take_of_length_le (by rw [List.length_drop, bs_size]; exact Nat.le_refl _)]
theorem rdNum_list (l : List UInt8) (w : Nat) (h1 : 1 ≤ w) (h8 : w ≤ 8) (h : w ≤ l.length) : rdNum (bs l) false (w : Int) = (bs (l.take w), bs (l.drop w), false) := by
  rw [rdNum_ok (bs l) w h1 h8 (by rw [bs_size]; exact h)]
  rw [bs_rest, bs_ext, List.drop_zero, Nat.sub_zero]
theorem last8_take (l : List UInt8) (w : Nat) (h8 : w ≤ 8) : last8 (l.take w) = l.take w := by
  unfold last8
  have : (l.take w).length ≤ 8 := by rw [List.length_take]; omega
  rw [show (l.take w).length - 8 = 0 by omega, List.drop_zero]
def RNIs (p : Nat) (ok : Bool) (l : List UInt8) (w : Nat) (v : Value) (W : World) (e : Ending) (w' : World) : Prop := e = .returned v ∧ RQ w' p (ok && decide (w ≤ l.length)) (l.drop w) ∧ Only p W w'
theorem rq_number (p : Nat) (ok : Bool) (l : List UInt8) (w : Nat) (h1 : 1 ≤ w) (h8 : w ≤ 8) (W : World) (h : RQ W p ok l) :
    Calls Try.prog 30 #[.pointer (some ⟨p, 0, none⟩), .int .i64 (w : Int)] W (RNIs p ok l w (.int .u64 (vN ok l w : Int)) W) := by
  obtain ⟨s, hr, hs, hz⟩ := h
  refine (number_any p s (by omega) (!ok) (w : Int) W hr).mono fun e w' ⟨h0, hr', ho⟩ => ?_
  cases ok with
  | false =>
    rw [show (!false) = true from rfl, rdNum_bad] at h0 hr'
    refine ⟨?_, ⟨s, hr', fun h => (by cases h), hz⟩, ho⟩
    rw [h0, show vN false l w = 0 from if_neg (by simp)]
    rfl
  | true =>
    rw [hs rfl] at h0 hr' hz
    rw [show (!true) = false from rfl] at h0 hr'
    by_cases hw : w ≤ l.length
    · rw [rdNum_list l w h1 h8 hw] at h0 hr'
      dsimp only at h0 hr'
      rw [bs_toList, last8_take _ _ h8] at h0
      refine ⟨?_, ⟨bs (l.drop w), ?_, fun _ => rfl, by rw [bs_size, List.length_drop]; rw [bs_size] at hz; omega⟩, ho⟩
      · rw [h0, show vN true l w = getN (l.take w) from if_pos ⟨rfl, hw⟩]
      · rw [decide_eq_true hw]; exact hr'
    · rw [rdNum_less (bs l) w (by rw [bs_size]; omega)] at h0 hr'
      dsimp only at h0 hr'
      refine ⟨?_, ⟨bs l, ?_, fun h => ?_, hz⟩, ho⟩
      · rw [h0, show vN true l w = 0 from if_neg (fun h => hw h.2)]; rfl
      · rw [decide_eq_false hw]; exact hr'
      · rw [decide_eq_false hw] at h; cases h
/-- a text of bytes -/
def txOk (ok : Bool) (l : List UInt8) : Bool := ok && decide (1 ≤ l.length ∧ 1 + (l.getD 0 0).toNat ≤ l.length)
def txV (ok : Bool) (l : List UInt8) : ByteArray := if txOk ok l = true then bs ((l.drop 1).take (l.getD 0 0).toNat) else ⟨#[]⟩
def RTIs (p : Nat) (ok : Bool) (l : List UInt8) (W : World) (e : Ending) (w' : World) : Prop := e = .returned (.string (txV ok l)) ∧ RQ w' p (txOk ok l) (l.drop (1 + (l.getD 0 0).toNat)) ∧ Only p W w'
theorem rdText_yes (l : List UInt8) (h1 : 1 ≤ l.length) (hw : 1 + (l.getD 0 0).toNat ≤ l.length) : rdText (bs l) false = (bs ((l.drop 1).take (l.getD 0 0).toNat), bs (l.drop (1 + (l.getD 0 0).toNat)), false) := by
  have e2 : (bs l).data.toList.getD 0 0 = l.getD 0 0 := rfl
  have e3 : rdTake (bs l) false ((1 : Int) + ((l.getD 0 0).toNat : Int)) true = (bs (l.take (1 + (l.getD 0 0).toNat)), bs (l.drop (1 + (l.getD 0 0).toNat)), false) := by
    unfold rdTake
    rw [if_neg (by decide), if_neg (by rw [bs_size]; rintro (h | h); cases h; omega), show ((1 : Int) + ((l.getD 0 0).toNat : Int)).toNat = 1 + (l.getD 0 0).toNat by omega, bs_rest, bs_ext, List.drop_zero, Nat.sub_zero]
  unfold rdText
  rw [if_neg (by rw [bs_size]; simp; exact fun h => by rw [h] at h1; simp at h1), e2, e3]
  dsimp only
  rw [if_neg (by decide), bs_rest, List.drop_take, show 1 + (l.getD 0 0).toNat - 1 = (l.getD 0 0).toNat by omega]
theorem rdText_no (l : List UInt8) (h : ¬ (1 ≤ l.length ∧ 1 + (l.getD 0 0).toNat ≤ l.length)) : rdText (bs l) false = (⟨#[]⟩, bs l, true) := by
  by_cases h1 : 1 ≤ l.length
  · have hw : ¬ 1 + (l.getD 0 0).toNat ≤ l.length := fun h2 => h ⟨h1, h2⟩
    have e2 : (bs l).data.toList.getD 0 0 = l.getD 0 0 := rfl
    have e3 : rdTake (bs l) false ((1 : Int) + ((l.getD 0 0).toNat : Int)) true = (⟨#[]⟩, bs l, true) := by
      unfold rdTake
      rw [if_neg (by decide), if_pos (Or.inr (by rw [bs_size]; omega))]
    unfold rdText
    rw [if_neg (by rw [bs_size]; simp; exact fun h => by rw [h] at h1; simp at h1), e2, e3]
    dsimp only
    rw [if_pos rfl]
  · exact if_pos (Or.inr (by rw [bs_size]; omega))
theorem rq_text (p : Nat) (ok : Bool) (l : List UInt8) (W : World) (h : RQ W p ok l) :
    Calls Try.prog 31 #[.pointer (some ⟨p, 0, none⟩)] W (RTIs p ok l W) := by
  obtain ⟨s, hr, hs, hz⟩ := h
  refine (text_any p s (by omega) (!ok) W hr).mono fun e w' ⟨h0, hr', ho⟩ => ?_
  cases ok with
  | false =>
    have e1 : rdText s (!false) = (⟨#[]⟩, s, true) := if_pos (Or.inl rfl)
    rw [e1] at h0 hr'
    exact ⟨h0, ⟨s, hr', (fun h => by cases h), hz⟩, ho⟩
  | true =>
    rw [hs rfl] at h0 hr' hz
    rw [show (!true) = false from rfl] at h0 hr'
    by_cases hh : 1 ≤ l.length ∧ 1 + (l.getD 0 0).toNat ≤ l.length
    · have hok : txOk true l = true := by unfold txOk; rw [Bool.true_and]; exact decide_eq_true hh
      have hv : txV true l = bs ((l.drop 1).take (l.getD 0 0).toNat) := by unfold txV; rw [if_pos hok]
      rw [rdText_yes l hh.1 hh.2] at h0 hr'
      refine ⟨?_, ⟨_, ?_, fun _ => rfl, by rw [bs_size, List.length_drop]; rw [bs_size] at hz; omega⟩, ho⟩
      · rw [hv]; exact h0
      · rw [hok]; exact hr'
    · have hok : txOk true l = false := by unfold txOk; rw [Bool.true_and]; exact decide_eq_false hh
      have hv : txV true l = ⟨#[]⟩ := by unfold txV; rw [hok]; rfl
      rw [rdText_no l hh] at h0 hr'
      refine ⟨?_, ⟨_, ?_, (fun h => by rw [hok] at h; cases h), hz⟩, ho⟩
      · rw [hv]; exact h0
      · rw [hok]; exact hr'
theorem rq_new (l : List UInt8) (hl : l.length ≤ 1000000) (w : World) : Calls Try.prog 20 #[.string (bs l)] w fun e w' => e = .returned (.pointer (some ⟨w.heap.size, 0, none⟩)) ∧ RQ w' w.heap.size true l ∧ Below w.heap.size w w' :=
  (read_any (bs l) w).mono fun e w' ⟨h0, h1, h2⟩ => ⟨h0, ⟨bs l, h1, fun _ => rfl, by rw [bs_size]; exact hl⟩, h2⟩
end Go.Proofs.Ytehjhldijhoeeaa
