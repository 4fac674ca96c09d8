/-
  A posting of a reader, by what is left.
-/
import Derived.Test.YtbnbfnlfgmlcgaaRQ
namespace Go.Proofs.Ytbnbfnlfgmlcgaa
set_option linter.unusedSimpArgs false
set_option linter.unusedVariables false
open Go.RowKit Go.WideShapes Go.ChangeShapes Go.ChangeAt Go.Deep
/-- a posting of bytes -/
def poOk (ok : Bool) (l : List UInt8) : Bool := ok && decide (1 ≤ l.length ∧ (l.getD 0 0).toNat ≤ 8 ∧ 1 + 10 * (l.getD 0 0).toNat ≤ l.length)
def poL (ok : Bool) (l : List UInt8) : List LnM := if poOk ok l = true then readL (bs l) (l.getD 0 0).toNat else []
def poE (ok : Bool) (l : List UInt8) : Int := if poOk ok l = true then 0 else 4
def RPIs (p : Nat) (ok : Bool) (l : List UInt8) (W : World) (e : Ending) (w' : World) : Prop := ∃ a c, e = .returned (.tuple #[.slice a (poL ok l).length c, .int .i64 (poE ok l)]) ∧ LnTy 80 W.heap.size w' a (poL ok l) ∧ (∃ ok' l', RQ w' p ok' l' ∧ (poOk ok l = true → ok' = true ∧ l' = l.drop (1 + 10 * (l.getD 0 0).toNat))) ∧ Only p W w'
theorem cnt_list (l : List UInt8) (h : 1 ≤ l.length) : cntS (bs l) = (l.getD 0 0).toNat := by
  cases l with
  | nil => simp at h
  | cons b l =>
    unfold cntS
    have e : ((bs (b :: l)).extract 0 1).data.toList = [b] := by
      rw [ByteArray.data_extract, Array.toList_extract, List.extract_eq_take_drop]
      simp [bs]
    rw [e]
    simp [last8, getN, List.getD]
set_option maxRecDepth 100000 in
theorem pread_bad (r : Nat) (s : ByteArray) (w : World) (h : RdAt w r s true) : Calls Try.prog 56 #[.pointer (some ⟨r, 0, none⟩)] w fun e w' => e = .returned (.tuple #[.slice none 0 0, .int .i64 4]) ∧ w = w' := by
  have HW := hide (wrong_any r s true w h)
  clear h
  go_enter Try.func56, Try.ntmps56
  go_wp2_with fail
  refine HW.out.mono ?_
  rintro e w1 ⟨rfl, rfl⟩
  go_wp2_with fail
  go_ret2
  exact ⟨rfl, rfl⟩
theorem rq_post (p : Nat) (ok : Bool) (l : List UInt8) (W : World) (h : RQ W p ok l) :
    Calls Try.prog 56 #[.pointer (some ⟨p, 0, none⟩)] W (RPIs p ok l W) := by
  obtain ⟨s, hr, hs, hz⟩ := h
  cases ok with
  | false => exact (pread_bad p s W hr).mono fun e w' ⟨h0, hw⟩ => ⟨none, 0, h0, (fun i hi => absurd hi (Nat.not_lt_zero i)), ⟨false, l, ⟨s, hw ▸ hr, (fun h => by cases h), hz⟩, (fun h => by cases h)⟩, hw ▸ Only.refl _ _⟩
  | true =>
    rw [hs rfl] at hr hz
    refine (pread_any p (bs l) hz W hr).mono fun e w' ⟨a, c, h0, hin, hr', ho⟩ => ?_
    have hro : readOk (bs l) = poOk true l := by
      unfold readOk poOk
      rw [Bool.true_and, decide_eq_decide, bs_size]
      by_cases h1 : 1 ≤ l.length
      · rw [cnt_list l h1]
      · exact ⟨fun h => absurd h.1 h1, fun h => absurd h.1 h1⟩
    by_cases hp : poOk true l = true
    · have hh : 1 ≤ l.length ∧ (l.getD 0 0).toNat ≤ 8 ∧ 1 + 10 * (l.getD 0 0).toNat ≤ l.length := by
        unfold poOk at hp
        rw [Bool.true_and] at hp
        exact of_decide_eq_true hp
      have e1 : rdL (bs l) = poL true l := by unfold rdL poL; rw [hro, if_pos hp, if_pos hp, cnt_list l hh.1]
      have e2 : rdE (bs l) = poE true l := by unfold rdE poE; rw [hro]
      have e3 : rdS (bs l) = bs (l.drop (1 + 10 * (l.getD 0 0).toNat)) := by unfold rdS; rw [hro, if_pos hp, cnt_list l hh.1, bs_rest]
      rw [e1, e2] at h0
      rw [e1] at hin
      rw [e3] at hr'
      exact ⟨a, c, h0, hin, ⟨true, _, ⟨_, hr', fun _ => rfl, by rw [bs_size, List.length_drop]; rw [bs_size] at hz; omega⟩, fun _ => ⟨rfl, rfl⟩⟩, ho⟩
    · have e1 : rdL (bs l) = poL true l := by unfold rdL poL; rw [hro, if_neg hp, if_neg hp]
      have e2 : rdE (bs l) = poE true l := by unfold rdE poE; rw [hro]
      have e3 : rdS (bs l) = bs l := by unfold rdS; rw [hro, if_neg hp]
      rw [e1, e2] at h0
      rw [e1] at hin
      rw [e3] at hr'
      exact ⟨a, c, h0, hin, ⟨true, l, ⟨_, hr', fun _ => rfl, hz⟩, fun h => absurd h hp⟩, ho⟩
end Go.Proofs.Ytbnbfnlfgmlcgaa
