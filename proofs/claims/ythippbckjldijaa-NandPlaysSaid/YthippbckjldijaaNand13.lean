/-
  Layer 5, the law's calls: full.
-/
import Derived.Test.YthippbckjldijaaNand12
namespace Go.Proofs.Ythippbckjldijaa
set_option linter.unusedSimpArgs false
set_option linter.unusedVariables false
open Go.RowKit Go.WideShapes Go.ChangeShapes Go.ChangeAt Go.Deep

def fillU (n : Nat) : ByteArray := ⟨(Lib.repeatL [85] n).toArray⟩
theorem fillU_size (n : Nat) : (fillU n).size = n := by
  show (Lib.repeatL [85] n).toArray.size = n
  rw [List.size_toArray, Lib.repeatL_length]
  simp
def fullB (s : ByteArray) (n : Nat) : ByteArray := (s ++ fillU n).extract 0 n
theorem fullB_size (s : ByteArray) (n : Nat) : (fullB s n).size = n := by
  unfold fullB
  rw [ByteArray.size_extract, ByteArray.size_append, fillU_size]
  omega
set_option maxRecDepth 100000 in
set_option maxHeartbeats 400000 in
theorem full_any (s : ByteArray) (hs : s.size ≤ 1000000) (n : Nat) (hn : n ≤ 2000) (w : World) :
    Calls Try.prog 13 #[.string s, .int .i64 (n : Int)] w fun e w' => e = .returned (.string (fullB s n)) ∧ Below w.heap.size w w' := by
  have HR := hide (show ∀ W, Calls Try.prog 31 #[.string ⟨#[85]⟩, .int .i64 (n : Int)] W fun e w' => e = .returned (.string (fillU n)) ∧ Below W.heap.size W w' from fun W => Try.strings_Repeat ⟨#[85]⟩ n W (by omega) (by show 1 * n ≤ _; omega))
  have hfs := fillU_size n
  have HF := hide (show fullB s n = (s ++ fillU n).extract 0 n from rfl)
  rw [HF.out]
  generalize fillU n = t at *
  have hsz : (s ++ t).size = s.size + n := by rw [ByteArray.size_append, hfs]
  have hle : (n : Int) ≤ (s.size : Int) + (t.size : Int) := by omega
  have hle2 : (n : Int) ≤ ((s ++ t).size : Int) := by rw [hsz]; omega
  have hno : ¬ 9223372036854775807 < s.size + t.size := by omega
  clear hfs HF
  go_enter Try.func13, Try.ntmps13
  go_wp2_with fail
  refine (HR.out _).mono ?_
  rintro e w1 ⟨rfl, hb⟩
  have HB := hide hb
  clear hb
  go_wp2_with fail
  go_ret
  exact ⟨rfl, HB.out⟩
end Go.Proofs.Ythippbckjldijaa
