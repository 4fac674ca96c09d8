/-
  Layer 4: fields as plain data: of, write, and the document's Write by contracts.
-/
import Derived.Test.YtmhppjgclaahnaaCur3
import Derived.Test.YtmhppjgclaahnaaKitF
import Derived.StillTailTactics
namespace Go.Proofs.Ytmhppjgclaahnaa
set_option linter.unusedSimpArgs false
set_option linter.unusedVariables false
open Go.RowKit

structure Fld where
  k : Int
  w : Int
  n : Int
  s : ByteArray
def fc (x : Fld) : List Value := [.int .i64 x.k, .int .i64 x.w, .int .u64 x.n, .string x.s]
theorem fc_length (x : Fld) : (fc x).length = 4 := rfl
def fld0 : Fld := ⟨0, 0, 0, ⟨#[]⟩⟩
/-- the document's field of one that came in -/
def ofF (x : Fld) : Fld := ⟨(if 0 < x.k then x.k else 0) % 3, x.w, x.n, if 300 < x.s.size then x.s.extract 0 300 else x.s⟩
def FldOk (x : Fld) : Prop := (-9223372036854775808 ≤ x.k ∧ x.k ≤ 9223372036854775807) ∧ (-9223372036854775808 ≤ x.w ∧ x.w ≤ 9223372036854775807) ∧ (0 ≤ x.n ∧ x.n ≤ 18446744073709551615) ∧ x.s.size ≤ 9223372036854775807
def FldGood (x : Fld) : Prop := (0 ≤ x.k ∧ x.k ≤ 2) ∧ (-9223372036854775808 ≤ x.w ∧ x.w ≤ 9223372036854775807) ∧ (0 ≤ x.n ∧ x.n ≤ 18446744073709551615) ∧ x.s.size ≤ 300
theorem ofF_good {x : Fld} (h : FldOk x) : FldGood (ofF x) := by
  obtain ⟨h1, h2, h3, h4⟩ := h
  refine ⟨?_, h2, h3, ?_⟩
  · simp only [ofF]; omega
  · simp only [ofF]; split
    · simp; omega
    · omega
set_option maxRecDepth 100000 in
set_option maxHeartbeats 1000000 in
theorem of_any (x : Fld) (hx : FldOk x) (w : World) :
    Calls Try.prog 22 #[.agg #[.int .i64 x.k, .int .i64 x.w, .int .u64 x.n, .string x.s]] w fun e w' => e = .returned (.agg (fc (ofF x)).toArray) ∧ Below w.heap.size w w' := by
  obtain ⟨⟨k0, k1⟩, ⟨w0, w1⟩, ⟨n0, n1⟩, hs⟩ := hx
  have HZ := hide (show fc (ofF x) = [.int .i64 ((if 0 < x.k then x.k else 0) % 3), .int .i64 x.w, .int .u64 x.n, .string (if 300 < x.s.size then x.s.extract 0 300 else x.s)] from rfl)
  generalize fc (ofF x) = Z at *
  obtain ⟨k, wd, n, s⟩ := x
  simp only at *
  obtain ⟨mx, hmx, m0⟩ : ∃ mx, (if 0 < k then k else 0) = mx ∧ 0 ≤ mx := ⟨_, rfl, by split <;> omega⟩
  have y1 : mx % 3 = mx.tmod 3 := by rw [Int.tmod_eq_emod_of_nonneg m0]
  rw [hmx] at HZ
  by_cases hb : 300 < s.size
  · rw [if_pos hb] at HZ
    go_enter Try.func22, Try.ntmps22
    go_wp2_with fail
    go_region
    all_goals
      go_wp2_with fail
      refine bodyPost_ret (v := .agg #[.int .i64 (mx % 3), .int .i64 wd, .int .u64 n, .string (s.extract 0 300)]) (by simp [results, Try.results22, go_sem]) rfl ⟨by rw [HZ.out], ?_⟩
      go_grown
  · rw [if_neg hb] at HZ
    have hb2 : s.size ≤ 300 := by omega
    go_enter Try.func22, Try.ntmps22
    go_wp2_with fail
    go_region
    all_goals
      go_wp2_with fail
      refine bodyPost_ret (v := .agg #[.int .i64 (mx % 3), .int .i64 wd, .int .u64 n, .string s]) (by simp [results, Try.results22, go_sem]) rfl ⟨by rw [HZ.out], ?_⟩
      go_grown

/-- the writer's bytes, field by field: what it has, and whether it may not be -/
def wrF (l : List UInt8) (bad : Bool) (x : Fld) : List UInt8 × Bool :=
  if x.k = 0 then (wrL l (putS x.n x.w) bad (fitsB x.n.toNat x.w), wrB bad (fitsB x.n.toNat x.w))
  else if x.k = 1 then (wrL l (putS x.n 8) bad (fitsB x.n.toNat 8), wrB bad (fitsB x.n.toNat 8))
  else (wrL l (putS (x.s.size : Int) 1 ++ x.s.data.toList) bad (decide (x.s.size ≤ 255)), wrB bad (decide (x.s.size ≤ 255)))
def wrFs (m : List Fld) : List UInt8 × Bool := m.foldl (fun z x => wrF z.1 z.2 x) ([], false)
theorem wrFs_snoc (m : List Fld) (x : Fld) : wrFs (m ++ [x]) = wrF (wrFs m).1 (wrFs m).2 x := by simp [wrFs]
theorem wrF_len (l : List UInt8) (bad : Bool) (x : Fld) : (wrF l bad x).1.length ≤ l.length + 300 := by
  have h := putS_le x.n x.w
  have h2 := putS_le x.n 8
  have h3 := putS_le (x.s.size : Int) 1
  unfold wrF wrL
  split
  · simp only; split
    · omega
    · rw [List.length_append]; omega
  · split
    · simp only; split
      · omega
      · rw [List.length_append]; omega
    · simp only; split
      · omega
      · rename_i hq
        have : x.s.size ≤ 255 := by
          rcases Nat.lt_or_ge 255 x.s.size with h | h
          · exact absurd (Or.inr (by simp; omega)) hq
          · exact h
        rw [List.length_append, List.length_append, size_list]; omega
theorem wrFs_len : ∀ m : List Fld, (wrFs m).1.length ≤ 300 * m.length := by
  intro m
  generalize hm : m.reverse = r
  obtain rfl : m = r.reverse := by rw [← hm, List.reverse_reverse]
  clear hm
  induction r with
  | nil => simp [wrFs]
  | cons x r ih =>
    rw [List.reverse_cons, wrFs_snoc]
    have := wrF_len (wrFs r.reverse).1 (wrFs r.reverse).2 x
    rw [List.length_append]
    simp only [List.length_cons, List.length_nil]
    omega
end Go.Proofs.Ytmhppjgclaahnaa
