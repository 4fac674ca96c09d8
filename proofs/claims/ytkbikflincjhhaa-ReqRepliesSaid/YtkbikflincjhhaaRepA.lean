/-
  Layer 28: replies of whatever kind, written and read.
-/
import Derived.Test.YtkbikflincjhhaaRepQ
namespace Go.Proofs.Ytkbikflincjhhaa
set_option linter.unusedSimpArgs false
set_option linter.unusedVariables false
open Go.RowKit Go.WideShapes Go.ChangeShapes Go.ChangeAt Go.Deep
theorem rwr_all (k : Nat) (hk : 1 ≤ k ∧ k ≤ 14) : RWrites k := by
  have h : Plain k ∨ k = 3 ∨ k = 10 ∨ k = 11 ∨ k = 12 ∨ k = 13 ∨ k = 14 := by unfold Plain; omega
  rcases h with h | rfl | rfl | rfl | rfl | rfl | rfl
  · exact fun x hx a cap q w0 w hin hlow T hW hB => rwr_plain k h x hx a cap q w0 w hin hlow T hW hB
  · exact rwr3
  · exact rwr10
  · exact rwr11
  · exact rwr12
  · exact rwr13
  · exact rwr14
theorem rrd_all (k : Nat) (hk : 1 ≤ k ∧ k ≤ 14) : RReads k := by
  have h : Plain k ∨ k = 3 ∨ k = 10 ∨ k = 11 ∨ k = 12 ∨ k = 13 ∨ k = 14 := by unfold Plain; omega
  rcases h with h | rfl | rfl | rfl | rfl | rfl | rfl
  · exact fun p rb ra ok l w W hf => rrd_plain k h p rb ra ok l w W hf
  · exact rrd3
  · exact rrd10
  · exact rrd11
  · exact rrd12
  · exact rrd13
  · exact rrd14
theorem renc_all (k : Nat) (hk : 1 ≤ k ∧ k ≤ 14) (x : RpM) (hx : RpOk x) (a : Option Addr) (cap : Nat) (w : World) (hin : LnIn w a x.L) :
    Calls Try.prog 15 #[.agg (rpC x (.slice a x.L.length cap)), .int .u8 (k : Int)] w (REncIs k x w) := renc_any k hk (rwr_all k hk) x hx a cap w hin
theorem par_all (k : Nat) (hk : 1 ≤ k ∧ k ≤ 14) (l : List UInt8) (hl : l.length ≤ 1000000) (w : World) : Calls Try.prog 16 #[.int .u8 (k : Int), .string (bs l)] w (ParIs k l w) := par_any k hk (rrd_all k hk) l hl w
end Go.Proofs.Ytkbikflincjhhaa
