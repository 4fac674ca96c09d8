/-
  A writer by the fields that it wrote.
-/
import Derived.Test.YtfdgfeohmkdnoaaCurW
import Derived.Test.YtfdgfeohmkdnoaaCur6
namespace Go.Proofs.Ytfdgfeohmkdnoaa
set_option linter.unusedSimpArgs false
set_option linter.unusedVariables false
open Go.RowKit Go.WideShapes Go.ChangeShapes Go.ChangeAt Go.Deep
def WFK : List TypeId := [5, 56]
/-- a writer at q that wrote these fields -/
def WF (W : World) (B q : Nat) (L : List Fld) : Prop := WrAt W B q (wrFs L).1 (wrFs L).2
theorem WF.new {w : World} {B : Nat} (hB : B ≤ w.heap.size) : WF (w.alloc (.cells #[.slice none 0 0, .bool false] 56)) B w.heap.size [] :=
  ⟨none, 0, heap_new _ _, ⟨rfl, .inl ⟨rfl, rfl⟩⟩⟩
theorem WF.below {W W' : World} {B q : Nat} {L : List Fld} (h : WF W B q L) (hb : Below W.heap.size W W') : WF W' B q L := WrAt.below h hb
theorem WF.drew {W : World} {B q : Nat} {L : List Fld} (h : WF W B q L) : WF W.drew B q L := h
theorem WF.lt {W : World} {B q : Nat} {L : List Fld} (h : WF W B q L) : q < W.heap.size := by
  obtain ⟨a, c, h1, -⟩ := h
  exact heap_lt h1
def WFIs (B q : Nat) (L : List Fld) (W : World) (e : Ending) (w' : World) : Prop := e = .returned (.pointer (some ⟨q, 0, none⟩)) ∧ WF w' B q L ∧ Below B W w' ∧ KeepsT WFK W w'
theorem wf_len {L : List Fld} (h : L.length ≤ 10000) : (wrFs L).1.length ≤ 90000000 := by have := wrFs_len L; omega
theorem wf_number (B q : Nat) (L : List Fld) (hL : L.length ≤ 10000) (n : Int) (n0 : 0 ≤ n) (n1 : n ≤ 18446744073709551615) (wd : Int) (W : World) (h : WF W B q L) (hB : B ≤ q) :
    Calls Try.prog 36 #[.pointer (some ⟨q, 0, none⟩), .int .u64 n, .int .i64 wd] W (WFIs B q (L ++ [⟨0, wd, n, ⟨#[]⟩⟩]) W) := by
  refine (wnumber_k B q (wrFs L).1 (wrFs L).2 (wf_len hL) n n0 n1 wd W h hB).mono fun e w' ⟨he, hw, hb, hk⟩ => ⟨he, ?_, hb, hk⟩
  unfold WF
  rw [wrFs_snoc]
  exact hw
theorem wf_signed (B q : Nat) (L : List Fld) (hL : L.length ≤ 10000) (n : Int) (n0 : -9223372036854775808 ≤ n) (n1 : n ≤ 9223372036854775807) (W : World) (h : WF W B q L) (hB : B ≤ q) :
    Calls Try.prog 52 #[.pointer (some ⟨q, 0, none⟩), .int .i64 n] W (WFIs B q (L ++ [⟨1, 0, IntKind.u64.wrap n, ⟨#[]⟩⟩]) W) := by
  refine (wsigned_k B q (wrFs L).1 (wrFs L).2 (wf_len hL) n n0 n1 W h hB).mono fun e w' ⟨he, hw, hb, hk⟩ => ⟨he, ?_, hb, hk⟩
  unfold WF
  rw [wrFs_snoc]
  exact hw
theorem wf_bytes (B q : Nat) (L : List Fld) (W : World) (h : WF W B q L) :
    Calls Try.prog 19 #[.pointer (some ⟨q, 0, none⟩)] W fun e w' => e = .returned (.tuple #[.string (refS L), .int .i64 (if (wrFs L).2 = true then 2 else 0)]) ∧ W = w' :=
  wbytes_any B q _ _ W h
theorem flds_of_owns {w : World} {B b c : Nat} {a : Option Addr} {m : List Fld} (h : w.ownsRow B b 4 (.slice a m.length c) m.length (m.flatMap fc)) : FldsAt w w.heap.size a m := fun i hi => by
  obtain ⟨g, ha, -, hl, hc⟩ := owns_rows fc fc_length fld0 h i hi
  exact ⟨g, ha, hl, hc⟩
theorem fc_one (x : Fld) : ∀ u ∈ fc x, u.oneCell' = true := by
  intro u hu
  simp [fc] at hu
  rcases hu with rfl | rfl | rfl | rfl <;> rfl
end Go.Proofs.Ytfdgfeohmkdnoaa
