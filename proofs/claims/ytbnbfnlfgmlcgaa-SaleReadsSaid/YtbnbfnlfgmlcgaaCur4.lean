/-
  Layer 4: fields as plain data: of, write, and the document's Write by contracts.
-/
import Derived.Test.YtbnbfnlfgmlcgaaCur3
import Derived.Test.YtbnbfnlfgmlcgaaKitF
import Derived.StillTailTactics
namespace Go.Proofs.Ytbnbfnlfgmlcgaa
set_option linter.unusedSimpArgs false
set_option linter.unusedVariables false
open Go.RowKit

structure Fld where
  k : Int
  w : Int
  n : Int
  s : ByteArray
def fc (x : Fld) : List Value := [.int .i64 x.k, .int .i64 x.w, .int .u64 x.n, .string x.s]
theorem fc_length (x : Fld) : (fc x).length = 4 := rfl
def fld0 : Fld := ⟨0, 0, 0, ⟨#[]⟩⟩
/-- the document's field of one that came in -/
def ofF (x : Fld) : Fld := ⟨(if 0 < x.k then x.k else 0) % 3, x.w, x.n, if 300 < x.s.size then x.s.extract 0 300 else x.s⟩
def FldOk (x : Fld) : Prop := (-9223372036854775808 ≤ x.k ∧ x.k ≤ 9223372036854775807) ∧ (-9223372036854775808 ≤ x.w ∧ x.w ≤ 9223372036854775807) ∧ (0 ≤ x.n ∧ x.n ≤ 18446744073709551615) ∧ x.s.size ≤ 9223372036854775807
def FldGood (x : Fld) : Prop := (0 ≤ x.k ∧ x.k ≤ 2) ∧ (-9223372036854775808 ≤ x.w ∧ x.w ≤ 9223372036854775807) ∧ (0 ≤ x.n ∧ x.n ≤ 18446744073709551615) ∧ x.s.size ≤ 300
theorem ofF_good {x : Fld} (h : FldOk x) : FldGood (ofF x) := by
  obtain ⟨h1, h2, h3, h4⟩ := h
  refine ⟨?_, h2, h3, ?_⟩
  · simp only [ofF]; omega
  · simp only [ofF]; split
    · simp; omega
    · omega
/-- the writer's bytes, field by field: what it has, and whether it may not be -/
def wrF (l : List UInt8) (bad : Bool) (x : Fld) : List UInt8 × Bool :=
  if x.k = 0 then (wrL l (putS x.n x.w) bad (fitsB x.n.toNat x.w), wrB bad (fitsB x.n.toNat x.w))
  else if x.k = 1 then (wrL l (putS x.n 8) bad (fitsB x.n.toNat 8), wrB bad (fitsB x.n.toNat 8))
  else (wrL l (putS (x.s.size : Int) 1 ++ x.s.data.toList) bad (decide (x.s.size ≤ 255)), wrB bad (decide (x.s.size ≤ 255)))
def wrFs (m : List Fld) : List UInt8 × Bool := m.foldl (fun z x => wrF z.1 z.2 x) ([], false)
theorem wrFs_snoc (m : List Fld) (x : Fld) : wrFs (m ++ [x]) = wrF (wrFs m).1 (wrFs m).2 x := by simp [wrFs]
theorem wrF_len (l : List UInt8) (bad : Bool) (x : Fld) : (wrF l bad x).1.length ≤ l.length + 300 := by
  have h := putS_le x.n x.w
  have h2 := putS_le x.n 8
  have h3 := putS_le (x.s.size : Int) 1
  unfold wrF wrL
  split
  · simp only; split
    · omega
    · rw [List.length_append]; omega
  · split
    · simp only; split
      · omega
      · rw [List.length_append]; omega
    · simp only; split
      · omega
      · rename_i hq
        have : x.s.size ≤ 255 := by
          rcases Nat.lt_or_ge 255 x.s.size with h | h
          · exact absurd (Or.inr (by simp; omega)) hq
          · exact h
        rw [List.length_append, List.length_append, size_list]; omega
theorem wrFs_len : ∀ m : List Fld, (wrFs m).1.length ≤ 300 * m.length := by
  intro m
  generalize hm : m.reverse = r
  obtain rfl : m = r.reverse := by rw [← hm, List.reverse_reverse]
  clear hm
  induction r with
  | nil => simp [wrFs]
  | cons x r ih =>
    rw [List.reverse_cons, wrFs_snoc]
    have := wrF_len (wrFs r.reverse).1 (wrFs r.reverse).2 x
    rw [List.length_append]
    simp only [List.length_cons, List.length_nil]
    omega
end Go.Proofs.Ytbnbfnlfgmlcgaa
