/-
  A reader by what is left, if nothing was wrong.
-/
import Derived.Test.YtkbikflincjhhaaPoR
import Derived.Test.YtkbikflincjhhaaMReq2
namespace Go.Proofs.Ytkbikflincjhhaa
set_option linter.unusedSimpArgs false
set_option linter.unusedVariables false
open Go.RowKit Go.WideShapes Go.ChangeShapes Go.ChangeAt Go.Deep
/-- a reader at p: what is left is l, if nothing was wrong -/
def RQ (W : World) (p : Nat) (ok : Bool) (l : List UInt8) : Prop := ∃ s, RdAt W p s (!ok) ∧ (ok = true → s = bs l) ∧ s.size ≤ 1000000
theorem RQ.below {W W' : World} {p : Nat} {ok : Bool} {l : List UInt8} (h : RQ W p ok l) (hb : Below W.heap.size W W') : RQ W' p ok l := by
  obtain ⟨s, h1, h2⟩ := h
  exact ⟨s, h1.below hb, h2⟩
theorem RQ.lt {W : World} {p : Nat} {ok : Bool} {l : List UInt8} (h : RQ W p ok l) : p < W.heap.size := by
  obtain ⟨s, h1, h2⟩ := h
  exact heap_lt h1.row
theorem RQ.other {W : World} {p : Nat} {ok : Bool} {l : List UInt8} (h : RQ W p ok l) {g : Nat} (hg : g ≠ p) (j : Nat) (v : Value) : RQ (W.setCell ⟨g, j, none⟩ v) p ok l := by
  obtain ⟨s, h1, h2⟩ := h
  exact ⟨s, ⟨(block_setCell_other hg j v).trans h1.row⟩, h2⟩
theorem Only.new {p A : Nat} {w W : World} (h : Only p w W) (hA : w.heap.size ≤ A) (j : Nat) (v : Value) : Only p w (W.setCell ⟨A, j, none⟩ v) :=
  ⟨h.os, h.tape, h.output, by simpa using h.size, fun k hk hp => (block_setCell_other (show A ≠ k by omega) j v).trans (h.block k hk hp)⟩
theorem Only.alloc {p : Nat} {w W : World} (h : Only p w W) (o : Obj) : Only p w (W.alloc o) := h.trans (.of_below ((Below.refl _ _).alloc (Nat.le_refl _) _))
def vN (ok : Bool) (l : List UInt8) (w : Nat) : Nat := if ok = true ∧ w ≤ l.length then getN (l.take w) else 0
theorem vN_lt (ok : Bool) (l : List UInt8) (w : Nat) : vN ok l w < 256 ^ w := by
  unfold vN
  split
  · refine Nat.lt_of_lt_of_le (getN_lt _) (Nat.pow_le_pow_right (by decide) ?_)
    rw [List.length_take]; omega
  · exact Nat.pow_pos (by decide)
theorem bs_ext (l : List UInt8) (a b : Nat) : (bs l).extract a b = bs ((l.drop a).take (b - a)) := by
  apply ByteArray.ext
  simp [bs, List.extract_eq_take_drop]
theorem bs_rest (l : List UInt8) (n : Nat) : (bs l).extract n (bs l).size = bs (l.drop n) := by
  rw [bs_ext, List.take_of_length_le (by rw [List.length_drop, bs_size]; exact Nat.le_refl _)]
theorem rdNum_list (l : List UInt8) (w : Nat) (h1 : 1 ≤ w) (h8 : w ≤ 8) (h : w ≤ l.length) : rdNum (bs l) false (w : Int) = (bs (l.take w), bs (l.drop w), false) := by
  rw [rdNum_ok (bs l) w h1 h8 (by rw [bs_size]; exact h)]
  rw [bs_rest, bs_ext, List.drop_zero, Nat.sub_zero]
theorem last8_take (l : List UInt8) (w : Nat) (h8 : w ≤ 8) : last8 (l.take w) = l.take w := by
  unfold last8
  have : (l.take w).length ≤ 8 := by rw [List.length_take]; omega
  rw [show (l.take w).length - 8 = 0 by omega, List.drop_zero]
def RNIs (p : Nat) (ok : Bool) (l : List UInt8) (w : Nat) (v : Value) (W : World) (e : Ending) (w' : World) : Prop := e = .returned v ∧ RQ w' p (ok && decide (w ≤ l.length)) (l.drop w) ∧ Only p W w'
theorem rq_number (p : Nat) (ok : Bool) (l : List UInt8) (w : Nat) (h1 : 1 ≤ w) (h8 : w ≤ 8) (W : World) (h : RQ W p ok l) :
    Calls Try.prog 27 #[.pointer (some ⟨p, 0, none⟩), .int .i64 (w : Int)] W (RNIs p ok l w (.int .u64 (vN ok l w : Int)) W) := by
  obtain ⟨s, hr, hs, hz⟩ := h
  refine (number_any p s (by omega) (!ok) (w : Int) W hr).mono fun e w' ⟨h0, hr', ho⟩ => ?_
  cases ok with
  | false =>
    rw [show (!false) = true from rfl, rdNum_bad] at h0 hr'
    refine ⟨?_, ⟨s, hr', fun h => (by cases h), hz⟩, ho⟩
    rw [h0, show vN false l w = 0 from if_neg (by simp)]
    rfl
  | true =>
    rw [hs rfl] at h0 hr' hz
    rw [show (!true) = false from rfl] at h0 hr'
    by_cases hw : w ≤ l.length
    · rw [rdNum_list l w h1 h8 hw] at h0 hr'
      dsimp only at h0 hr'
      rw [bs_toList, last8_take _ _ h8] at h0
      refine ⟨?_, ⟨bs (l.drop w), ?_, fun _ => rfl, by rw [bs_size, List.length_drop]; rw [bs_size] at hz; omega⟩, ho⟩
      · rw [h0, show vN true l w = getN (l.take w) from if_pos ⟨rfl, hw⟩]
      · rw [decide_eq_true hw]; exact hr'
    · rw [rdNum_less (bs l) w (by rw [bs_size]; omega)] at h0 hr'
      dsimp only at h0 hr'
      refine ⟨?_, ⟨bs l, ?_, fun h => ?_, hz⟩, ho⟩
      · rw [h0, show vN true l w = 0 from if_neg (fun h => hw h.2)]; rfl
      · rw [decide_eq_false hw]; exact hr'
      · rw [decide_eq_false hw] at h; cases h
theorem rq_signed (p : Nat) (ok : Bool) (l : List UInt8) (W : World) (h : RQ W p ok l) :
    Calls Try.prog 46 #[.pointer (some ⟨p, 0, none⟩)] W (RNIs p ok l 8 (.int .i64 (wrap64 (vN ok l 8 : Int))) W) := by
  obtain ⟨s, hr, hs, hz⟩ := h
  refine (signed_any p s (by omega) (!ok) W hr).mono fun e w' ⟨h0, hr', ho⟩ => ?_
  cases ok with
  | false =>
    rw [show (!false) = true from rfl, rdNum_bad] at h0 hr'
    refine ⟨?_, ⟨s, hr', fun h => (by cases h), hz⟩, ho⟩
    rw [h0, show vN false l 8 = 0 from if_neg (by simp)]
    rfl
  | true =>
    rw [hs rfl] at h0 hr' hz
    rw [show (!true) = false from rfl, show (8 : Int) = ((8 : Nat) : Int) from rfl] at h0 hr'
    by_cases hw : 8 ≤ l.length
    · rw [rdNum_list l 8 (by decide) (by decide) hw] at h0 hr'
      dsimp only at h0 hr'
      rw [bs_toList, last8_take _ _ (by decide)] at h0
      refine ⟨?_, ⟨bs (l.drop 8), ?_, fun _ => rfl, by rw [bs_size, List.length_drop]; rw [bs_size] at hz; omega⟩, ho⟩
      · rw [h0, show vN true l 8 = getN (l.take 8) from if_pos ⟨rfl, hw⟩]
      · rw [decide_eq_true hw]; exact hr'
    · rw [rdNum_less (bs l) 8 (by rw [bs_size]; omega)] at h0 hr'
      dsimp only at h0 hr'
      refine ⟨?_, ⟨bs l, ?_, fun h => ?_, hz⟩, ho⟩
      · rw [h0, show vN true l 8 = 0 from if_neg (fun h => hw h.2)]; rfl
      · rw [decide_eq_false hw]; exact hr'
      · rw [decide_eq_false hw] at h; cases h
/-- a text of bytes -/
def txOk (ok : Bool) (l : List UInt8) : Bool := ok && decide (1 ≤ l.length ∧ 1 + (l.getD 0 0).toNat ≤ l.length)
def txV (ok : Bool) (l : List UInt8) : ByteArray := if txOk ok l = true then bs ((l.drop 1).take (l.getD 0 0).toNat) else ⟨#[]⟩
def RTIs (p : Nat) (ok : Bool) (l : List UInt8) (W : World) (e : Ending) (w' : World) : Prop := e = .returned (.string (txV ok l)) ∧ RQ w' p (txOk ok l) (l.drop (1 + (l.getD 0 0).toNat)) ∧ Only p W w'
theorem rdText_yes (l : List UInt8) (h1 : 1 ≤ l.length) (hw : 1 + (l.getD 0 0).toNat ≤ l.length) : rdText (bs l) false = (bs ((l.drop 1).take (l.getD 0 0).toNat), bs (l.drop (1 + (l.getD 0 0).toNat)), false) := by
  have e2 : (bs l).data.toList.getD 0 0 = l.getD 0 0 := rfl
  have e3 : rdTake (bs l) false ((1 : Int) + ((l.getD 0 0).toNat : Int)) true = (bs (l.take (1 + (l.getD 0 0).toNat)), bs (l.drop (1 + (l.getD 0 0).toNat)), false) := by
    unfold rdTake
    rw [if_neg (by decide), if_neg (by rw [bs_size]; rintro (h | h); cases h; omega), show ((1 : Int) + ((l.getD 0 0).toNat : Int)).toNat = 1 + (l.getD 0 0).toNat by omega, bs_rest, bs_ext, List.drop_zero, Nat.sub_zero]
  unfold rdText
  rw [if_neg (by rw [bs_size]; simp; exact fun h => by rw [h] at h1; simp at h1), e2, e3]
  dsimp only
  rw [if_neg (by decide), bs_rest, List.drop_take, show 1 + (l.getD 0 0).toNat - 1 = (l.getD 0 0).toNat by omega]
theorem rdText_no (l : List UInt8) (h : ¬ (1 ≤ l.length ∧ 1 + (l.getD 0 0).toNat ≤ l.length)) : rdText (bs l) false = (⟨#[]⟩, bs l, true) := by
  by_cases h1 : 1 ≤ l.length
  · have hw : ¬ 1 + (l.getD 0 0).toNat ≤ l.length := fun h2 => h ⟨h1, h2⟩
    have e2 : (bs l).data.toList.getD 0 0 = l.getD 0 0 := rfl
    have e3 : rdTake (bs l) false ((1 : Int) + ((l.getD 0 0).toNat : Int)) true = (⟨#[]⟩, bs l, true) := by
      unfold rdTake
      rw [if_neg (by decide), if_pos (Or.inr (by rw [bs_size]; omega))]
    unfold rdText
    rw [if_neg (by rw [bs_size]; simp; exact fun h => by rw [h] at h1; simp at h1), e2, e3]
    dsimp only
    rw [if_pos rfl]
  · exact if_pos (Or.inr (by rw [bs_size]; omega))
theorem rq_text (p : Nat) (ok : Bool) (l : List UInt8) (W : World) (h : RQ W p ok l) :
    Calls Try.prog 44 #[.pointer (some ⟨p, 0, none⟩)] W (RTIs p ok l W) := by
  obtain ⟨s, hr, hs, hz⟩ := h
  refine (text_any p s (by omega) (!ok) W hr).mono fun e w' ⟨h0, hr', ho⟩ => ?_
  cases ok with
  | false =>
    have e1 : rdText s (!false) = (⟨#[]⟩, s, true) := if_pos (Or.inl rfl)
    rw [e1] at h0 hr'
    exact ⟨h0, ⟨s, hr', (fun h => by cases h), hz⟩, ho⟩
  | true =>
    rw [hs rfl] at h0 hr' hz
    rw [show (!true) = false from rfl] at h0 hr'
    by_cases hh : 1 ≤ l.length ∧ 1 + (l.getD 0 0).toNat ≤ l.length
    · have hok : txOk true l = true := by unfold txOk; rw [Bool.true_and]; exact decide_eq_true hh
      have hv : txV true l = bs ((l.drop 1).take (l.getD 0 0).toNat) := by unfold txV; rw [if_pos hok]
      rw [rdText_yes l hh.1 hh.2] at h0 hr'
      refine ⟨?_, ⟨_, ?_, fun _ => rfl, by rw [bs_size, List.length_drop]; rw [bs_size] at hz; omega⟩, ho⟩
      · rw [hv]; exact h0
      · rw [hok]; exact hr'
    · have hok : txOk true l = false := by unfold txOk; rw [Bool.true_and]; exact decide_eq_false hh
      have hv : txV true l = ⟨#[]⟩ := by unfold txV; rw [hok]; rfl
      rw [rdText_no l hh] at h0 hr'
      refine ⟨?_, ⟨_, ?_, (fun h => by rw [hok] at h; cases h), hz⟩, ho⟩
      · rw [hv]; exact h0
      · rw [hok]; exact hr'
def endZ (ok : Bool) (l : List UInt8) : Int := if ok = true ∧ l = [] then 0 else 4
theorem rq_end (p : Nat) (ok : Bool) (l : List UInt8) (W : World) (h : RQ W p ok l) :
    Calls Try.prog 29 #[.pointer (some ⟨p, 0, none⟩)] W fun e w' => e = .returned (.int .i64 (endZ ok l)) ∧ W = w' := by
  obtain ⟨s, hr, hs, hz⟩ := h
  refine (end_any p s (!ok) W hr).mono fun e w' ⟨h0, hw⟩ => ⟨?_, hw⟩
  rw [h0]
  cases ok with
  | false => rfl
  | true =>
    rw [hs rfl]
    unfold endE endZ
    rw [bs_size]
    by_cases hl : l = []
    · rw [if_neg (by rw [hl]; simp), if_pos ⟨rfl, hl⟩]
    · rw [if_pos (Or.inr (fun h => hl (List.length_eq_zero_iff.1 h))), if_neg (fun h => hl h.2)]
theorem rq_new (l : List UInt8) (hl : l.length ≤ 1000000) (w : World) : Calls Try.prog 26 #[.string (bs l)] w fun e w' => e = .returned (.pointer (some ⟨w.heap.size, 0, none⟩)) ∧ RQ w' w.heap.size true l ∧ Below w.heap.size w w' :=
  (read_any (bs l) w).mono fun e w' ⟨h0, h1, h2⟩ => ⟨h0, ⟨bs l, h1, fun _ => rfl, by rw [bs_size]; exact hl⟩, h2⟩
/-- a posting of bytes -/
def poOk (ok : Bool) (l : List UInt8) : Bool := ok && decide (1 ≤ l.length ∧ (l.getD 0 0).toNat ≤ 8 ∧ 1 + 10 * (l.getD 0 0).toNat ≤ l.length)
def poL (ok : Bool) (l : List UInt8) : List LnM := if poOk ok l = true then readL (bs l) (l.getD 0 0).toNat else []
def poE (ok : Bool) (l : List UInt8) : Int := if poOk ok l = true then 0 else 4
def RPIs (p : Nat) (ok : Bool) (l : List UInt8) (W : World) (e : Ending) (w' : World) : Prop := ∃ a c, e = .returned (.tuple #[.slice a (poL ok l).length c, .int .i64 (poE ok l)]) ∧ LnFrom W.heap.size w' a (poL ok l) ∧ (∃ ok' l', RQ w' p ok' l' ∧ (poOk ok l = true → ok' = true ∧ l' = l.drop (1 + 10 * (l.getD 0 0).toNat))) ∧ Only p W w'
theorem cnt_list (l : List UInt8) (h : 1 ≤ l.length) : cntS (bs l) = (l.getD 0 0).toNat := by
  cases l with
  | nil => simp at h
  | cons b l =>
    unfold cntS
    have e : ((bs (b :: l)).extract 0 1).data.toList = [b] := by
      rw [ByteArray.data_extract, Array.toList_extract, List.extract_eq_take_drop]
      simp [bs]
    rw [e]
    simp [last8, getN, List.getD]
set_option maxRecDepth 100000 in
theorem pread_bad (r : Nat) (s : ByteArray) (w : World) (h : RdAt w r s true) : Calls Try.prog 45 #[.pointer (some ⟨r, 0, none⟩)] w fun e w' => e = .returned (.tuple #[.slice none 0 0, .int .i64 4]) ∧ w = w' := by
  have HW := hide (wrong_any r s true w h)
  clear h
  go_enter Try.func45, Try.ntmps45
  go_wp2_with fail
  refine HW.out.mono ?_
  rintro e w1 ⟨rfl, rfl⟩
  go_wp2_with fail
  go_ret2
  exact ⟨rfl, rfl⟩
theorem rq_post (p : Nat) (ok : Bool) (l : List UInt8) (W : World) (h : RQ W p ok l) :
    Calls Try.prog 45 #[.pointer (some ⟨p, 0, none⟩)] W (RPIs p ok l W) := by
  obtain ⟨s, hr, hs, hz⟩ := h
  cases ok with
  | false => exact (pread_bad p s W hr).mono fun e w' ⟨h0, hw⟩ => ⟨none, 0, h0, (fun i hi => absurd hi (Nat.not_lt_zero i)), ⟨false, l, ⟨s, hw ▸ hr, (fun h => by cases h), hz⟩, (fun h => by cases h)⟩, hw ▸ Only.refl _ _⟩
  | true =>
    rw [hs rfl] at hr hz
    refine (pread_any p (bs l) hz W hr).mono fun e w' ⟨a, c, h0, hin, hr', ho⟩ => ?_
    have hro : readOk (bs l) = poOk true l := by
      unfold readOk poOk
      rw [Bool.true_and, decide_eq_decide, bs_size]
      by_cases h1 : 1 ≤ l.length
      · rw [cnt_list l h1]
      · exact ⟨fun h => absurd h.1 h1, fun h => absurd h.1 h1⟩
    by_cases hp : poOk true l = true
    · have hh : 1 ≤ l.length ∧ (l.getD 0 0).toNat ≤ 8 ∧ 1 + 10 * (l.getD 0 0).toNat ≤ l.length := by
        unfold poOk at hp
        rw [Bool.true_and] at hp
        exact of_decide_eq_true hp
      have e1 : rdL (bs l) = poL true l := by unfold rdL poL; rw [hro, if_pos hp, if_pos hp, cnt_list l hh.1]
      have e2 : rdE (bs l) = poE true l := by unfold rdE poE; rw [hro]
      have e3 : rdS (bs l) = bs (l.drop (1 + 10 * (l.getD 0 0).toNat)) := by unfold rdS; rw [hro, if_pos hp, cnt_list l hh.1, bs_rest]
      rw [e1, e2] at h0
      rw [e1] at hin
      rw [e3] at hr'
      exact ⟨a, c, h0, hin, ⟨true, _, ⟨_, hr', fun _ => rfl, by rw [bs_size, List.length_drop]; rw [bs_size] at hz; omega⟩, fun _ => ⟨rfl, rfl⟩⟩, ho⟩
    · have e1 : rdL (bs l) = poL true l := by unfold rdL poL; rw [hro, if_neg hp, if_neg hp]
      have e2 : rdE (bs l) = poE true l := by unfold rdE poE; rw [hro]
      have e3 : rdS (bs l) = bs l := by unfold rdS; rw [hro, if_neg hp]
      rw [e1, e2] at h0
      rw [e1] at hin
      rw [e3] at hr'
      exact ⟨a, c, h0, hin, ⟨true, l, ⟨_, hr', fun _ => rfl, hz⟩, fun h => absurd h hp⟩, ho⟩
end Go.Proofs.Ytkbikflincjhhaa
