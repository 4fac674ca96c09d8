/-
  No cell of these rows narrows 'for every input' (looked for: loops, veiled, ifaces, maps, wideKeys, modest, calm, conditions, laid).
  DERIVED. THE GIVEN ROWS OF THIS SEAT. 3 by the template 'for every input the law returns true; each argument reads behind the call as it read before'; 0 by the template 'total and deterministic' (their statements: YtjfmkfhjbdiojaaGreatTotals.lean).
  GIVEN WITH THE SEED: the statements are not yours to turn. If you find one false, say at which input.
  Laid BY PROGRAM, IN A SANDBOX (cutbox-rows.mjs): the forced cells as the released guide's own fill.sh prints them over the translation 1faa6a3fe6cc9cee… (all of the seat's roots in one cut). By AI agents, Wed Nov 11 2026. No macro, syntax, notation, axiom, sorry.
-/
import Derived.Test.YtjfmkfhjbdiojaaGreatChecked
import GoSem.Claim
import GoSem.ClaimJoined
import GoSem.ClaimMapViews
import Derived.JoinedTies
import Derived.KernelRfl
namespace Go.Proofs.YtjfmkfhjbdiojaaGreat
/- THE CELL 'sum', in the pinned program and in every row, IS THE sha256 OF THE DUMP (.gsa) THAT YtjfmkfhjbdiojaaGreatProg.lean LOADS. Nothing in Lean hashes anything: it is a label: what it is worth is what the hold of that sum in a sandbox is worth. -/
noncomputable def Tryz.pinned : Pinned := { name := "ytjfmkfhjbdiojaagreat", sum := "1faa6a3fe6cc9ceebc745da18504c7b314e19cbef9202f9e463597bdbd2e5cf1", checked := Tryz.checked }
namespace Rows
def none {H : Type} : Left H := { results := [], args := [] }

/-- 'tillrolllaw17.LevelWins': WHATEVER THE INPUT: true; the input reads as it did. -/
def levelWinsSpec : ChangeSpec := { name := "levelWins", fn := fun _ => fun
  | [d] => { results := [.lit (.bool true)], args := [d] }
  | _ => none }
def levelWinsRow : OpenClaim := { program := "ytjfmkfhjbdiojaagreat", sum := "1faa6a3fe6cc9ceebc745da18504c7b314e19cbef9202f9e463597bdbd2e5cf1", func := "tillroll/tillrolllaw17.LevelWins", spec := "levelWins", inPlace := ["internal/abi.NoEscape", "internal/bytealg.MakeNoZero", "internal/bytealg.CountString", "internal/bytealg.IndexByteString", "internal/bytealg.IndexString"], unfollowed := true, recurses := true, named := ["internal/bytealg.MaxLen"], plainKeys := false, apart := false }
def LevelWinsSaid : Prop := levelWinsRow.holds Tryz.pinned (OpenSpec.ofChange levelWinsSpec)

/-- ITS FALSE NEIGHBOUR: 'it returns false'. Refute it at one input. -/
def levelWinsWrong : ChangeSpec := { name := "levelWins", fn := fun _ => fun
  | [d] => { results := [.lit (.bool false)], args := [d] }
  | _ => none }
def LevelWinsWrongFalsely : Prop := levelWinsRow.holds Tryz.pinned (OpenSpec.ofChange levelWinsWrong)

/-- 'tillrolllaw17.LevelEvens': WHATEVER THE INPUT: true; the input reads as it did. -/
def levelEvensSpec : ChangeSpec := { name := "levelEvens", fn := fun _ => fun
  | [d1, d2] => { results := [.lit (.bool true)], args := [d1, d2] }
  | _ => none }
def levelEvensRow : OpenClaim := { program := "ytjfmkfhjbdiojaagreat", sum := "1faa6a3fe6cc9ceebc745da18504c7b314e19cbef9202f9e463597bdbd2e5cf1", func := "tillroll/tillrolllaw17.LevelEvens", spec := "levelEvens", inPlace := ["internal/abi.NoEscape", "internal/bytealg.MakeNoZero", "internal/bytealg.CountString", "internal/bytealg.IndexByteString", "internal/bytealg.IndexString"], unfollowed := true, recurses := true, named := ["internal/bytealg.MaxLen"], plainKeys := false, apart := false }
def LevelEvensSaid : Prop := levelEvensRow.holds Tryz.pinned (OpenSpec.ofChange levelEvensSpec)

/-- ITS FALSE NEIGHBOUR: 'it returns false'. Refute it at one input. -/
def levelEvensWrong : ChangeSpec := { name := "levelEvens", fn := fun _ => fun
  | [d1, d2] => { results := [.lit (.bool false)], args := [d1, d2] }
  | _ => none }
def LevelEvensWrongFalsely : Prop := levelEvensRow.holds Tryz.pinned (OpenSpec.ofChange levelEvensWrong)

/-- 'tillrolllaw17.LevelNone': WHATEVER THE INPUT: true; the input reads as it did. -/
def levelNoneSpec : ChangeSpec := { name := "levelNone", fn := fun _ => fun
  | [d1, d2] => { results := [.lit (.bool true)], args := [d1, d2] }
  | _ => none }
def levelNoneRow : OpenClaim := { program := "ytjfmkfhjbdiojaagreat", sum := "1faa6a3fe6cc9ceebc745da18504c7b314e19cbef9202f9e463597bdbd2e5cf1", func := "tillroll/tillrolllaw17.LevelNone", spec := "levelNone", inPlace := ["internal/abi.NoEscape", "internal/bytealg.MakeNoZero", "internal/bytealg.CountString", "internal/bytealg.IndexByteString", "internal/bytealg.IndexString"], unfollowed := true, recurses := true, named := ["internal/bytealg.MaxLen"], plainKeys := false, apart := false }
def LevelNoneSaid : Prop := levelNoneRow.holds Tryz.pinned (OpenSpec.ofChange levelNoneSpec)

/-- ITS FALSE NEIGHBOUR: 'it returns false'. Refute it at one input. -/
def levelNoneWrong : ChangeSpec := { name := "levelNone", fn := fun _ => fun
  | [d1, d2] => { results := [.lit (.bool false)], args := [d1, d2] }
  | _ => none }
def LevelNoneWrongFalsely : Prop := levelNoneRow.holds Tryz.pinned (OpenSpec.ofChange levelNoneWrong)

/- THE SECOND FORM. 'bulk': how many values and letters a reading holds, each counted each time it is reached (what is shared counts as often as it is met; a slice's spare places count too). A statement '..UptoSaid' is the law's where the arguments, and the package variables that the reading takes, are together of bulk at most 1048576: NARROWER than '..Said'. Prove '..Said' where nothing that the law and all that it calls make is longer than what came in: it says more and counts as full. Else prove '..UptoSaid'. A law counts once. -/
mutual
def uptoBulk {H : Type} : DataW H → Nat
  | .lit (.string bytes) => bytes.length + 1
  | .lit _ => 1
  | .nil => 1
  | .ptr d => uptoBulk d + 1
  | .slice elems spare => uptoBulkAll elems + uptoBulkAll spare + 1
  | .agg parts => uptoBulkAll parts + 1
  | .iface _ d => uptoBulk d + 1
  | .map entries => uptoBulkEntries entries + 1
  | .held _ => 1
def uptoBulkAll {H : Type} : List (DataW H) → Nat
  | [] => 0
  | d :: r => uptoBulk d + uptoBulkAll r
def uptoBulkEntries {H : Type} : List (Lit × DataW H) → Nat
  | [] => 0
  | x :: r => uptoBulkEntry x + uptoBulkEntries r
def uptoBulkEntry {H : Type} : Lit × DataW H → Nat
  | (.string bytes, d) => bytes.length + uptoBulk d + 1
  | (_, d) => uptoBulk d + 1
 end
def uptoSmall : (H : Type) → List (DataW H) → Bool := fun _ ds => decide (uptoBulkAll ds ≤ 1048576)
def OpenSpec.upto (s : _root_.Go.ChangeSpec) : _root_.Go.OpenSpec := { _root_.Go.OpenSpec.ofChange s with cond := some uptoSmall }

/-- 'tillrolllaw17.LevelWins', WHERE WHAT IT READS IS OF BULK AT MOST 1048576: true; the input reads as it did. -/
def levelWinsUptoRow : OpenClaim := { program := "ytjfmkfhjbdiojaagreat", sum := "1faa6a3fe6cc9ceebc745da18504c7b314e19cbef9202f9e463597bdbd2e5cf1", func := "tillroll/tillrolllaw17.LevelWins", spec := "levelWins", inPlace := ["internal/abi.NoEscape", "internal/bytealg.MakeNoZero", "internal/bytealg.CountString", "internal/bytealg.IndexByteString", "internal/bytealg.IndexString"], unfollowed := true, recurses := true, named := ["internal/bytealg.MaxLen"], plainKeys := false, apart := false, narrowed := true }
def LevelWinsUptoSaid : Prop := levelWinsUptoRow.holds Tryz.pinned (OpenSpec.upto levelWinsSpec)

/-- 'tillrolllaw17.LevelEvens', WHERE WHAT IT READS IS OF BULK AT MOST 1048576: true; the input reads as it did. -/
def levelEvensUptoRow : OpenClaim := { program := "ytjfmkfhjbdiojaagreat", sum := "1faa6a3fe6cc9ceebc745da18504c7b314e19cbef9202f9e463597bdbd2e5cf1", func := "tillroll/tillrolllaw17.LevelEvens", spec := "levelEvens", inPlace := ["internal/abi.NoEscape", "internal/bytealg.MakeNoZero", "internal/bytealg.CountString", "internal/bytealg.IndexByteString", "internal/bytealg.IndexString"], unfollowed := true, recurses := true, named := ["internal/bytealg.MaxLen"], plainKeys := false, apart := false, narrowed := true }
def LevelEvensUptoSaid : Prop := levelEvensUptoRow.holds Tryz.pinned (OpenSpec.upto levelEvensSpec)

/-- 'tillrolllaw17.LevelNone', WHERE WHAT IT READS IS OF BULK AT MOST 1048576: true; the input reads as it did. -/
def levelNoneUptoRow : OpenClaim := { program := "ytjfmkfhjbdiojaagreat", sum := "1faa6a3fe6cc9ceebc745da18504c7b314e19cbef9202f9e463597bdbd2e5cf1", func := "tillroll/tillrolllaw17.LevelNone", spec := "levelNone", inPlace := ["internal/abi.NoEscape", "internal/bytealg.MakeNoZero", "internal/bytealg.CountString", "internal/bytealg.IndexByteString", "internal/bytealg.IndexString"], unfollowed := true, recurses := true, named := ["internal/bytealg.MaxLen"], plainKeys := false, apart := false, narrowed := true }
def LevelNoneUptoSaid : Prop := levelNoneUptoRow.holds Tryz.pinned (OpenSpec.upto levelNoneSpec)

end Rows
end Go.Proofs.YtjfmkfhjbdiojaaGreat
