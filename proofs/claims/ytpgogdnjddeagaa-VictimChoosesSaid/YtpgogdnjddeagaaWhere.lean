/-
  Layer 12, the program's calls: a map of logical pages by contracts.
-/
import Derived.Test.YtpgogdnjddeagaaKitN
import Derived.Test.YtpgogdnjddeagaaMWhere
import Derived.DeepKeys4
import Derived.StillTailTactics
--import Derived.Test.Zdbg
namespace Go.Proofs.Ytpgogdnjddeagaa
set_option linter.unusedSimpArgs false
set_option linter.unusedVariables false
open Go.RowKit Go.Maps W

/-- an int -/
def I64 (a : Int) : Prop := -9223372036854775808 ≤ a ∧ a ≤ 9223372036854775807
def plc (b p : Int) : Value := .agg #[.int .i64 b, .int .i64 p]
def pk (b p : Int) : Lit := .string (keyBytes [.int .i64 b, .int .i64 p])
theorem wfI {a : Int} (h : I64 a) : (Lit.int .i64 a).wf = true := WalkArith.wf_i64 h
theorem typesOne : ∃ n, Try.prog.types.size = n + 1 := ⟨Try.prog.types.size - 1, by have : 0 < Try.prog.types.size := of_decide_eq_true (by kernel_rfl); omega⟩
theorem wideP : (match Try.prog.underlying 60 with | some (.array _ _) | some (.struct _) => true | _ => false) = true := by kernel_rfl
theorem cellsP : Try.prog.cellsOf 60 = 2 := by kernel_rfl
theorem cellsI : Try.prog.cellsOf 3 = 1 := by kernel_rfl
theorem keyTypeP : Try.prog.keyType 60 = true := by kernel_rfl
theorem KeyedP : Maps.Keyed Try.prog 60 := Maps.Keyed.of_law (deep_law_laid laidOut (m := 2) (by omega) (of_decide_eq_true (by kernel_rfl)) (by kernel_rfl) wideP)
theorem lits_int {n : Nat} {a : Int} (h : I64 a) : Try.prog.keyLits (n + 1) 3 [.int .i64 a] = some [.int .i64 a] := by
  unfold Program.keyLits
  rw [Try.underlying3]
  simp [wfI h]
theorem key_place {b p : Int} (hb : I64 b) (hp : I64 p) : keyOf Try.prog 60 (plc b p) = some (pk b p) := by
  obtain ⟨n, hn⟩ := typesOne
  have hf : (plc b p).formed Try.prog 60 = true := by simp [plc, Value.formed, Try.underlying60, cellsP]
  have hl : Try.prog.keyLits (Try.prog.types.size + 1) 60 [.int .i64 b, .int .i64 p] = some [.int .i64 b, .int .i64 p] := by
    rw [hn]
    unfold Program.keyLits
    rw [Try.underlying60]
    simp [cellsP, cellsI, lits_int hb, lits_int hp]
  unfold keyOf
  rw [Try.underlying60]
  simp only [keyTypeP, hf, Bool.and_self, if_true]
  rw [show (plc b p).cells.toList = [.int .i64 b, .int .i64 p] from rfl, hl]
  rfl
theorem isKey_pk (b p : Int) : WideAt.IsKeyLit (pk b p) := trivial
theorem pk_inj {b p b' p' : Int} (hb : I64 b) (hp : I64 p) (hb' : I64 b') (hp' : I64 p') (h : pk b p = pk b' p') : b = b' ∧ p = p' := by
  have := KeyedP.inj (key_place hb hp) (h ▸ key_place hb' hp')
  simpa [plc] using this

def spotC (x : Option (Int × Int)) : List Value := match x with
  | none => [.int .i64 0, .int .i64 0, .bool false]
  | some (b, p) => [.int .i64 b, .int .i64 p, .bool true]
theorem spotC_len (x : Option (Int × Int)) : (spotC x).length = 3 := by unfold spotC; split <;> rfl
def liveL (S : Spots) (nb : Nat) : List Value := (List.range nb).map fun (b : Nat) => .int .i64 (liveN S (b : Int))
/-- a map of logical pages lies at block p, its spots at q, its owners at o, its counts at l -/
structure WhereAt (w : World) (p q o l : Nat) (pg : Int) (nb : Nat) (S : Spots) : Prop where
  head : w.heap[p]? = some (.cells #[.int .i64 pg, .slice (some ⟨q, 0, none⟩) S.length S.length, .map (some o), .slice (some ⟨l, 0, none⟩) nb nb] 74 (0, 0))
  row : w.heap[q]? = some (.cells (S.flatMap spotC).toArray 81 (0, 0))
  live : w.heap[l]? = some (.cells (liveL S nb).toArray 3 (0, 0))
  own : ∃ f, MapIs w Try.prog 60 o (total S) (total S) f ∧ ∀ b p, I64 b → I64 p → f (pk b p) = (owner S (b, p)).map (fun i => .int .i64 i)
  inj : Inj S
  ok : ∀ (i : Nat) b p, S[i]? = some (some (b, p)) → 0 ≤ b ∧ b < nb ∧ 0 ≤ p ∧ p < pg
  big : pg ≤ 64 ∧ nb ≤ 256 ∧ S.length ≤ 4096
  apart : [p, q, o, l].Nodup
theorem WhereAt.kept {w w' : World} {p q o l : Nat} {pg : Int} {nb : Nat} {S : Spots} (h : WhereAt w p q o l pg nb S) (hp : w'.heap[p]? = w.heap[p]?) (hq : w'.heap[q]? = w.heap[q]?) (ho : w'.heap[o]? = w.heap[o]?) (hl : w'.heap[l]? = w.heap[l]?) : WhereAt w' p q o l pg nb S := by
  obtain ⟨f, h1, h2⟩ := h.own
  exact ⟨hp.trans h.head, hq.trans h.row, hl.trans h.live, ⟨f, h1.kept ho, h2⟩, h.inj, h.ok, h.big, h.apart⟩
theorem WhereAt.lt {w : World} {p q o l : Nat} {pg : Int} {nb : Nat} {S : Spots} (h : WhereAt w p q o l pg nb S) : p < w.heap.size ∧ q < w.heap.size ∧ o < w.heap.size ∧ l < w.heap.size := by
  obtain ⟨f, h1, _⟩ := h.own
  exact ⟨heap_lt h.head, heap_lt h.row, h1.lt, heap_lt h.live⟩
theorem WhereAt.below {w w' : World} {p q o l : Nat} {pg : Int} {nb : Nat} {S : Spots} (h : WhereAt w p q o l pg nb S) (hb : Below w.heap.size w w') : WhereAt w' p q o l pg nb S :=
  let ⟨a, b, c, d⟩ := h.lt; h.kept (hb.block _ a) (hb.block _ b) (hb.block _ c) (hb.block _ d)
theorem WhereAt.onlyL {w w' : World} {p q o l : Nat} {pg : Int} {nb : Nat} {S : Spots} {qs : List Nat} (h : WhereAt w p q o l pg nb S) (hb : OnlyL qs w w') (h1 : p ∉ qs) (h2 : q ∉ qs) (h3 : o ∉ qs) (h4 : l ∉ qs) : WhereAt w' p q o l pg nb S :=
  let ⟨a, b, c, d⟩ := h.lt; h.kept (hb.block _ a h1) (hb.block _ b h2) (hb.block _ c h3) (hb.block _ d h4)
theorem WhereAt.cells {w : World} {p q o l : Nat} {pg : Int} {nb : Nat} {S : Spots} (h : WhereAt w p q o l pg nb S) :
    w.cell? ⟨p, 0, none⟩ = some (.int .i64 pg) ∧ w.cell? ⟨p, 1, none⟩ = some (.slice (some ⟨q, 0, none⟩) S.length S.length) ∧ w.cell? ⟨p, 2, none⟩ = some (.map (some o)) ∧ w.cell? ⟨p, 3, none⟩ = some (.slice (some ⟨l, 0, none⟩) nb nb) :=
  ⟨by rw [cell_of_block h.head]; rfl, by rw [cell_of_block h.head]; rfl, by rw [cell_of_block h.head]; rfl, by rw [cell_of_block h.head]; rfl⟩
theorem WhereAt.spot {w : World} {p q o l : Nat} {pg : Int} {nb : Nat} {S : Spots} (h : WhereAt w p q o l pg nb S) (i : Nat) (hi : i < S.length) (j : Nat) (hj : j < 3) :
    w.cell? ⟨q, i * 3 + j, none⟩ = (spotC (S.getD i none))[j]? ∧ w.frozen? ⟨q, i * 3 + j, none⟩ = false :=
  ⟨by rw [cell_of_block h.row, ← flat_at spotC 3 spotC_len none S i j hi hj]; simp, frozen_of_block h.row _⟩
theorem WhereAt.lv {w : World} {p q o l : Nat} {pg : Int} {nb : Nat} {S : Spots} (h : WhereAt w p q o l pg nb S) (b : Nat) (hb : b < nb) :
    w.cell? ⟨l, b, none⟩ = some (.int .i64 (liveN S b)) ∧ w.frozen? ⟨l, b, none⟩ = false :=
  ⟨by rw [cell_of_block h.live]; simp [liveL, hb], frozen_of_block h.live _⟩

theorem known_yes {w : World} {p q o l : Nat} {pg : Int} {nb : Nat} {S : Spots} (h : WhereAt w p q o l pg nb S) (i : Nat) (hi : i < S.length) :
    Calls Try.prog 36 #[.pointer (some ⟨p, 0, none⟩), .int .i64 (i : Int)] w fun e w' => e = .returned (.bool true) ∧ w = w' := by
  obtain ⟨-, c1, -, -⟩ := h.cells
  clear h
  go_enter Try.func36, Try.ntmps36
  go_wp2
  go_ret
  exact ⟨rfl, rfl⟩
theorem known_no {w : World} {p q o l : Nat} {pg : Int} {nb : Nat} {S : Spots} (h : WhereAt w p q o l pg nb S) (i : Int) (hi : i < 0 ∨ (S.length : Int) ≤ i) :
    Calls Try.prog 36 #[.pointer (some ⟨p, 0, none⟩), .int .i64 i] w fun e w' => e = .returned (.bool false) ∧ w = w' := by
  obtain ⟨-, c1, -, -⟩ := h.cells
  clear h
  rcases hi with hi | hi
  · have h0 : ¬ 0 ≤ i := by omega
    go_enter Try.func36, Try.ntmps36
    go_wp2
    go_ret
    exact ⟨rfl, rfl⟩
  · have h0 : 0 ≤ i := by omega
    have h1 : ¬ i < S.length := by omega
    go_enter Try.func36, Try.ntmps36
    go_wp2
    go_ret
    exact ⟨rfl, rfl⟩
theorem known_nil (i : Int) (w : World) : Calls Try.prog 36 #[.pointer none, .int .i64 i] w fun e w' => e = .returned (.bool false) ∧ w = w' := by
  go_enter Try.func36, Try.ntmps36
  go_wp2
  go_ret
  exact ⟨rfl, rfl⟩
theorem block_yes {w : World} {p q o l : Nat} {pg : Int} {nb : Nat} {S : Spots} (h : WhereAt w p q o l pg nb S) (i : Nat) (hi : i < nb) :
    Calls Try.prog 34 #[.pointer (some ⟨p, 0, none⟩), .int .i64 (i : Int)] w fun e w' => e = .returned (.bool true) ∧ w = w' := by
  obtain ⟨-, -, -, c1⟩ := h.cells
  clear h
  go_enter Try.func34, Try.ntmps34
  go_wp2
  go_ret
  exact ⟨rfl, rfl⟩
theorem block_no {w : World} {p q o l : Nat} {pg : Int} {nb : Nat} {S : Spots} (h : WhereAt w p q o l pg nb S) (i : Int) (hi : i < 0 ∨ (nb : Int) ≤ i) :
    Calls Try.prog 34 #[.pointer (some ⟨p, 0, none⟩), .int .i64 i] w fun e w' => e = .returned (.bool false) ∧ w = w' := by
  obtain ⟨-, -, -, c1⟩ := h.cells
  clear h
  rcases hi with hi | hi
  · have h0 : ¬ 0 ≤ i := by omega
    go_enter Try.func34, Try.ntmps34
    go_wp2
    go_ret
    exact ⟨rfl, rfl⟩
  · have h0 : 0 ≤ i := by omega
    have h1 : ¬ i < nb := by omega
    go_enter Try.func34, Try.ntmps34
    go_wp2
    go_ret
    exact ⟨rfl, rfl⟩
theorem block_nil (i : Int) (w : World) : Calls Try.prog 34 #[.pointer none, .int .i64 i] w fun e w' => e = .returned (.bool false) ∧ w = w' := by
  go_enter Try.func34, Try.ntmps34
  go_wp2
  go_ret
  exact ⟨rfl, rfl⟩
end Go.Proofs.Ytpgogdnjddeagaa
