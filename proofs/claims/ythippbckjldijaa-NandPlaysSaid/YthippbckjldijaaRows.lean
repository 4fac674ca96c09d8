/-
  No cell of these rows narrows 'for every input' (looked for: loops, veiled, ifaces, maps, wideKeys, modest, calm, conditions, laid).
  DERIVED. THE GIVEN ROWS OF THIS SEAT. 4 by the template 'for every input the law returns true; each argument reads behind the call as it read before'; 0 by the template 'total and deterministic' (their statements: YthippbckjldijaaTotals.lean).
  GIVEN WITH THE SEED: the statements are not yours to turn. If you find one false, say at which input.
  Laid BY PROGRAM, IN A SANDBOX (cutbox-rows.mjs): the forced cells as the released guide's own fill.sh prints them over the translation 8caa25dd4a94f6da… (all of the seat's roots in one cut). By AI agents, Wed Nov 11 2026. No macro, syntax, notation, axiom, sorry.
-/
import Derived.Test.YthippbckjldijaaChecked
import GoSem.Claim
import GoSem.ClaimJoined
import GoSem.ClaimMapViews
import Derived.JoinedTies
import Derived.KernelRfl
namespace Go.Proofs.Ythippbckjldijaa
/- THE CELL 'sum', in the pinned program and in every row, IS THE sha256 OF THE DUMP (.gsa) THAT YthippbckjldijaaProg.lean LOADS. Nothing in Lean hashes anything: it is a label: what it is worth is what the hold of that sum in a sandbox is worth. -/
noncomputable def Try.pinned : Pinned := { name := "ythippbckjldijaa", sum := "8caa25dd4a94f6daa6914a851baf0b47604275ad7af14e29a662d0d709fe9371", checked := Try.checked }
namespace Rows
def none {H : Type} : Left H := { results := [], args := [] }

/-- 'tillrolllaw05.NandPlays': WHATEVER THE INPUT: true; the input reads as it did. -/
def nandPlaysSpec : ChangeSpec := { name := "nandPlays", fn := fun _ => fun
  | [d1, d2, d3] => { results := [.lit (.bool true)], args := [d1, d2, d3] }
  | _ => none }
def nandPlaysRow : OpenClaim := { program := "ythippbckjldijaa", sum := "8caa25dd4a94f6daa6914a851baf0b47604275ad7af14e29a662d0d709fe9371", func := "tillroll/tillrolllaw05.NandPlays", spec := "nandPlays", inPlace := ["internal/abi.NoEscape", "internal/bytealg.MakeNoZero"], unfollowed := true, recurses := true, plainKeys := false, apart := false }
def NandPlaysSaid : Prop := nandPlaysRow.holds Try.pinned (OpenSpec.ofChange nandPlaysSpec)

/-- ITS FALSE NEIGHBOUR: 'it returns false'. Refute it at one input. -/
def nandPlaysWrong : ChangeSpec := { name := "nandPlays", fn := fun _ => fun
  | [d1, d2, d3] => { results := [.lit (.bool false)], args := [d1, d2, d3] }
  | _ => none }
def NandPlaysWrongFalsely : Prop := nandPlaysRow.holds Try.pinned (OpenSpec.ofChange nandPlaysWrong)

/-- 'tillrolllaw05.NandShapes': WHATEVER THE INPUT: true; the input reads as it did. -/
def nandShapesSpec : ChangeSpec := { name := "nandShapes", fn := fun _ => fun
  | [d1, d2, d3] => { results := [.lit (.bool true)], args := [d1, d2, d3] }
  | _ => none }
def nandShapesRow : OpenClaim := { program := "ythippbckjldijaa", sum := "8caa25dd4a94f6daa6914a851baf0b47604275ad7af14e29a662d0d709fe9371", func := "tillroll/tillrolllaw05.NandShapes", spec := "nandShapes", inPlace := ["internal/abi.NoEscape", "internal/bytealg.MakeNoZero"], unfollowed := true, recurses := true, plainKeys := false, apart := false }
def NandShapesSaid : Prop := nandShapesRow.holds Try.pinned (OpenSpec.ofChange nandShapesSpec)

/-- ITS FALSE NEIGHBOUR: 'it returns false'. Refute it at one input. -/
def nandShapesWrong : ChangeSpec := { name := "nandShapes", fn := fun _ => fun
  | [d1, d2, d3] => { results := [.lit (.bool false)], args := [d1, d2, d3] }
  | _ => none }
def NandShapesWrongFalsely : Prop := nandShapesRow.holds Try.pinned (OpenSpec.ofChange nandShapesWrong)

/-- 'tillrolllaw05.NandOnce': WHATEVER THE INPUT: true; the input reads as it did. -/
def nandOnceSpec : ChangeSpec := { name := "nandOnce", fn := fun _ => fun
  | [d] => { results := [.lit (.bool true)], args := [d] }
  | _ => none }
def nandOnceRow : OpenClaim := { program := "ythippbckjldijaa", sum := "8caa25dd4a94f6daa6914a851baf0b47604275ad7af14e29a662d0d709fe9371", func := "tillroll/tillrolllaw05.NandOnce", spec := "nandOnce", inPlace := ["internal/abi.NoEscape", "internal/bytealg.MakeNoZero"], unfollowed := true, recurses := true, plainKeys := false, apart := false }
def NandOnceSaid : Prop := nandOnceRow.holds Try.pinned (OpenSpec.ofChange nandOnceSpec)

/-- ITS FALSE NEIGHBOUR: 'it returns false'. Refute it at one input. -/
def nandOnceWrong : ChangeSpec := { name := "nandOnce", fn := fun _ => fun
  | [d] => { results := [.lit (.bool false)], args := [d] }
  | _ => none }
def NandOnceWrongFalsely : Prop := nandOnceRow.holds Try.pinned (OpenSpec.ofChange nandOnceWrong)

/-- 'tillrolllaw05.NandFails': WHATEVER THE INPUT: true; the input reads as it did. -/
def nandFailsSpec : ChangeSpec := { name := "nandFails", fn := fun _ => fun
  | [d1, d2, d3] => { results := [.lit (.bool true)], args := [d1, d2, d3] }
  | _ => none }
def nandFailsRow : OpenClaim := { program := "ythippbckjldijaa", sum := "8caa25dd4a94f6daa6914a851baf0b47604275ad7af14e29a662d0d709fe9371", func := "tillroll/tillrolllaw05.NandFails", spec := "nandFails", inPlace := ["internal/abi.NoEscape", "internal/bytealg.MakeNoZero"], unfollowed := true, recurses := true, plainKeys := false, apart := false }
def NandFailsSaid : Prop := nandFailsRow.holds Try.pinned (OpenSpec.ofChange nandFailsSpec)

/-- ITS FALSE NEIGHBOUR: 'it returns false'. Refute it at one input. -/
def nandFailsWrong : ChangeSpec := { name := "nandFails", fn := fun _ => fun
  | [d1, d2, d3] => { results := [.lit (.bool false)], args := [d1, d2, d3] }
  | _ => none }
def NandFailsWrongFalsely : Prop := nandFailsRow.holds Try.pinned (OpenSpec.ofChange nandFailsWrong)

/- THE SECOND FORM. 'bulk': how many values and letters a reading holds, each counted each time it is reached (what is shared counts as often as it is met; a slice's spare places count too). A statement '..UptoSaid' is the law's where the arguments, and the package variables that the reading takes, are together of bulk at most 1048576: NARROWER than '..Said'. Prove '..Said' where nothing that the law and all that it calls make is longer than what came in: it says more and counts as full. Else prove '..UptoSaid'. A law counts once. -/
mutual
def uptoBulk {H : Type} : DataW H → Nat
  | .lit (.string bytes) => bytes.length + 1
  | .lit _ => 1
  | .nil => 1
  | .ptr d => uptoBulk d + 1
  | .slice elems spare => uptoBulkAll elems + uptoBulkAll spare + 1
  | .agg parts => uptoBulkAll parts + 1
  | .iface _ d => uptoBulk d + 1
  | .map entries => uptoBulkEntries entries + 1
  | .held _ => 1
def uptoBulkAll {H : Type} : List (DataW H) → Nat
  | [] => 0
  | d :: r => uptoBulk d + uptoBulkAll r
def uptoBulkEntries {H : Type} : List (Lit × DataW H) → Nat
  | [] => 0
  | x :: r => uptoBulkEntry x + uptoBulkEntries r
def uptoBulkEntry {H : Type} : Lit × DataW H → Nat
  | (.string bytes, d) => bytes.length + uptoBulk d + 1
  | (_, d) => uptoBulk d + 1
 end
def uptoSmall : (H : Type) → List (DataW H) → Bool := fun _ ds => decide (uptoBulkAll ds ≤ 1048576)
def OpenSpec.upto (s : _root_.Go.ChangeSpec) : _root_.Go.OpenSpec := { _root_.Go.OpenSpec.ofChange s with cond := some uptoSmall }

/-- 'tillrolllaw05.NandPlays', WHERE WHAT IT READS IS OF BULK AT MOST 1048576: true; the input reads as it did. -/
def nandPlaysUptoRow : OpenClaim := { program := "ythippbckjldijaa", sum := "8caa25dd4a94f6daa6914a851baf0b47604275ad7af14e29a662d0d709fe9371", func := "tillroll/tillrolllaw05.NandPlays", spec := "nandPlays", inPlace := ["internal/abi.NoEscape", "internal/bytealg.MakeNoZero"], unfollowed := true, recurses := true, plainKeys := false, apart := false, narrowed := true }
def NandPlaysUptoSaid : Prop := nandPlaysUptoRow.holds Try.pinned (OpenSpec.upto nandPlaysSpec)

/-- 'tillrolllaw05.NandShapes', WHERE WHAT IT READS IS OF BULK AT MOST 1048576: true; the input reads as it did. -/
def nandShapesUptoRow : OpenClaim := { program := "ythippbckjldijaa", sum := "8caa25dd4a94f6daa6914a851baf0b47604275ad7af14e29a662d0d709fe9371", func := "tillroll/tillrolllaw05.NandShapes", spec := "nandShapes", inPlace := ["internal/abi.NoEscape", "internal/bytealg.MakeNoZero"], unfollowed := true, recurses := true, plainKeys := false, apart := false, narrowed := true }
def NandShapesUptoSaid : Prop := nandShapesUptoRow.holds Try.pinned (OpenSpec.upto nandShapesSpec)

/-- 'tillrolllaw05.NandOnce', WHERE WHAT IT READS IS OF BULK AT MOST 1048576: true; the input reads as it did. -/
def nandOnceUptoRow : OpenClaim := { program := "ythippbckjldijaa", sum := "8caa25dd4a94f6daa6914a851baf0b47604275ad7af14e29a662d0d709fe9371", func := "tillroll/tillrolllaw05.NandOnce", spec := "nandOnce", inPlace := ["internal/abi.NoEscape", "internal/bytealg.MakeNoZero"], unfollowed := true, recurses := true, plainKeys := false, apart := false, narrowed := true }
def NandOnceUptoSaid : Prop := nandOnceUptoRow.holds Try.pinned (OpenSpec.upto nandOnceSpec)

/-- 'tillrolllaw05.NandFails', WHERE WHAT IT READS IS OF BULK AT MOST 1048576: true; the input reads as it did. -/
def nandFailsUptoRow : OpenClaim := { program := "ythippbckjldijaa", sum := "8caa25dd4a94f6daa6914a851baf0b47604275ad7af14e29a662d0d709fe9371", func := "tillroll/tillrolllaw05.NandFails", spec := "nandFails", inPlace := ["internal/abi.NoEscape", "internal/bytealg.MakeNoZero"], unfollowed := true, recurses := true, plainKeys := false, apart := false, narrowed := true }
def NandFailsUptoSaid : Prop := nandFailsUptoRow.holds Try.pinned (OpenSpec.upto nandFailsSpec)

end Rows
end Go.Proofs.Ythippbckjldijaa
