/-
  Lemmas and contracts of this project's own, put together: Where, Where2, Where3, MMv, Bat3, Where4, Move, MvW.
-/
import Derived.DeepKeys4
import Derived.StillTailTactics
import Derived.Test.YtjfmkfhjbdiojaaGreatPk15
namespace Go.Proofs.YtjfmkfhjbdiojaaGreat
set_option linter.unusedSimpArgs false
set_option linter.unusedVariables false
open Go.RowKit Go.Maps W

/-- an int -/
def I64 (a : Int) : Prop := -9223372036854775808 ≤ a ∧ a ≤ 9223372036854775807
def plc (b p : Int) : Value := .agg #[.int .i64 b, .int .i64 p]
def pk (b p : Int) : Lit := .string (keyBytes [.int .i64 b, .int .i64 p])
theorem wfI {a : Int} (h : I64 a) : (Lit.int .i64 a).wf = true := WalkArith.wf_i64 h
theorem typesOne : ∃ n, Tryz.prog.types.size = n + 1 := ⟨Tryz.prog.types.size - 1, by have : 0 < Tryz.prog.types.size := of_decide_eq_true (by kernel_rfl); omega⟩
theorem wideP : (match Tryz.prog.underlying 41 with | some (.array _ _) | some (.struct _) => true | _ => false) = true := by kernel_rfl
theorem cellsP : Tryz.prog.cellsOf 41 = 2 := by kernel_rfl
theorem cellsI : Tryz.prog.cellsOf 3 = 1 := by kernel_rfl
theorem keyTypeP : Tryz.prog.keyType 41 = true := by kernel_rfl
set_option maxRecDepth 100000 in
theorem KeyedP : Maps.Keyed Tryz.prog 41 := Maps.Keyed.of_law (deep_law_laid laidOut (m := 2) (by omega) (of_decide_eq_true (by kernel_rfl)) (by kernel_rfl) wideP)
theorem lits_int {n : Nat} {a : Int} (h : I64 a) : Tryz.prog.keyLits (n + 1) 3 [.int .i64 a] = some [.int .i64 a] := by
  unfold Program.keyLits
  rw [Tryz.underlying3]
  simp [wfI h]
theorem key_place {b p : Int} (hb : I64 b) (hp : I64 p) : keyOf Tryz.prog 41 (plc b p) = some (pk b p) := by
  obtain ⟨n, hn⟩ := typesOne
  have hf : (plc b p).formed Tryz.prog 41 = true := by simp [plc, Value.formed, Tryz.underlying41, cellsP]
  have hl : Tryz.prog.keyLits (Tryz.prog.types.size + 1) 41 [.int .i64 b, .int .i64 p] = some [.int .i64 b, .int .i64 p] := by
    rw [hn]
    unfold Program.keyLits
    rw [Tryz.underlying41]
    simp [cellsP, cellsI, lits_int hb, lits_int hp]
  unfold keyOf
  rw [Tryz.underlying41]
  simp only [keyTypeP, hf, Bool.and_self, if_true]
  rw [show (plc b p).cells.toList = [.int .i64 b, .int .i64 p] from rfl, hl]
  rfl
theorem isKey_pk (b p : Int) : WideAt.IsKeyLit (pk b p) := trivial
theorem pk_inj {b p b' p' : Int} (hb : I64 b) (hp : I64 p) (hb' : I64 b') (hp' : I64 p') (h : pk b p = pk b' p') : b = b' ∧ p = p' := by
  have := KeyedP.inj (key_place hb hp) (h ▸ key_place hb' hp')
  simpa [plc] using this

def spotC (x : Option (Int × Int)) : List Value := match x with
  | none => [.int .i64 0, .int .i64 0, .bool false]
  | some (b, p) => [.int .i64 b, .int .i64 p, .bool true]
theorem spotC_len (x : Option (Int × Int)) : (spotC x).length = 3 := by unfold spotC; split <;> rfl
def liveL (S : Spots) (nb : Nat) : List Value := (List.range nb).map fun (b : Nat) => .int .i64 (liveN S (b : Int))
/-- a map of logical pages lies at block p, its spots at q, its owners at o, its counts at l -/
structure WhereAt (w : World) (p q o l : Nat) (pg : Int) (nb : Nat) (S : Spots) : Prop where
  head : w.heap[p]? = some (.cells #[.int .i64 pg, .slice (some ⟨q, 0, none⟩) S.length S.length, .map (some o), .slice (some ⟨l, 0, none⟩) nb nb] 91 (0, 0))
  row : w.heap[q]? = some (.cells (S.flatMap spotC).toArray 87 (0, 0))
  live : w.heap[l]? = some (.cells (liveL S nb).toArray 3 (0, 0))
  own : ∃ f, MapIs w Tryz.prog 41 o (total S) (total S) f ∧ ∀ b p, I64 b → I64 p → f (pk b p) = (owner S (b, p)).map (fun i => .int .i64 i)
  inj : Inj S
  ok : ∀ (i : Nat) b p, S[i]? = some (some (b, p)) → 0 ≤ b ∧ b < nb ∧ 0 ≤ p ∧ p < pg
  big : pg ≤ 64 ∧ nb ≤ 256 ∧ S.length ≤ 4096
  apart : [p, q, o, l].Nodup
theorem WhereAt.kept {w w' : World} {p q o l : Nat} {pg : Int} {nb : Nat} {S : Spots} (h : WhereAt w p q o l pg nb S) (hp : w'.heap[p]? = w.heap[p]?) (hq : w'.heap[q]? = w.heap[q]?) (ho : w'.heap[o]? = w.heap[o]?) (hl : w'.heap[l]? = w.heap[l]?) : WhereAt w' p q o l pg nb S := by
  obtain ⟨f, h1, h2⟩ := h.own
  exact ⟨hp.trans h.head, hq.trans h.row, hl.trans h.live, ⟨f, h1.kept ho, h2⟩, h.inj, h.ok, h.big, h.apart⟩
theorem WhereAt.lt {w : World} {p q o l : Nat} {pg : Int} {nb : Nat} {S : Spots} (h : WhereAt w p q o l pg nb S) : p < w.heap.size ∧ q < w.heap.size ∧ o < w.heap.size ∧ l < w.heap.size := by
  obtain ⟨f, h1, _⟩ := h.own
  exact ⟨heap_lt h.head, heap_lt h.row, h1.lt, heap_lt h.live⟩
theorem WhereAt.below {w w' : World} {p q o l : Nat} {pg : Int} {nb : Nat} {S : Spots} (h : WhereAt w p q o l pg nb S) (hb : Below w.heap.size w w') : WhereAt w' p q o l pg nb S :=
  let ⟨a, b, c, d⟩ := h.lt; h.kept (hb.block _ a) (hb.block _ b) (hb.block _ c) (hb.block _ d)
theorem WhereAt.onlyL {w w' : World} {p q o l : Nat} {pg : Int} {nb : Nat} {S : Spots} {qs : List Nat} (h : WhereAt w p q o l pg nb S) (hb : OnlyL qs w w') (h1 : p ∉ qs) (h2 : q ∉ qs) (h3 : o ∉ qs) (h4 : l ∉ qs) : WhereAt w' p q o l pg nb S :=
  let ⟨a, b, c, d⟩ := h.lt; h.kept (hb.block _ a h1) (hb.block _ b h2) (hb.block _ c h3) (hb.block _ d h4)
theorem WhereAt.cells {w : World} {p q o l : Nat} {pg : Int} {nb : Nat} {S : Spots} (h : WhereAt w p q o l pg nb S) :
    w.cell? ⟨p, 0, none⟩ = some (.int .i64 pg) ∧ w.cell? ⟨p, 1, none⟩ = some (.slice (some ⟨q, 0, none⟩) S.length S.length) ∧ w.cell? ⟨p, 2, none⟩ = some (.map (some o)) ∧ w.cell? ⟨p, 3, none⟩ = some (.slice (some ⟨l, 0, none⟩) nb nb) :=
  ⟨by rw [cell_of_block h.head]; rfl, by rw [cell_of_block h.head]; rfl, by rw [cell_of_block h.head]; rfl, by rw [cell_of_block h.head]; rfl⟩
theorem WhereAt.spot {w : World} {p q o l : Nat} {pg : Int} {nb : Nat} {S : Spots} (h : WhereAt w p q o l pg nb S) (i : Nat) (hi : i < S.length) (j : Nat) (hj : j < 3) :
    w.cell? ⟨q, i * 3 + j, none⟩ = (spotC (S.getD i none))[j]? ∧ w.frozen? ⟨q, i * 3 + j, none⟩ = false :=
  ⟨by rw [cell_of_block h.row, ← flat_at spotC 3 spotC_len none S i j hi hj]; simp, frozen_of_block h.row _⟩
theorem WhereAt.lv {w : World} {p q o l : Nat} {pg : Int} {nb : Nat} {S : Spots} (h : WhereAt w p q o l pg nb S) (b : Nat) (hb : b < nb) :
    w.cell? ⟨l, b, none⟩ = some (.int .i64 (liveN S b)) ∧ w.frozen? ⟨l, b, none⟩ = false :=
  ⟨by rw [cell_of_block h.live]; simp [liveL, hb], frozen_of_block h.live _⟩

theorem known_yes {w : World} {p q o l : Nat} {pg : Int} {nb : Nat} {S : Spots} (h : WhereAt w p q o l pg nb S) (i : Nat) (hi : i < S.length) :
    Calls Tryz.prog 32 #[.pointer (some ⟨p, 0, none⟩), .int .i64 (i : Int)] w fun e w' => e = .returned (.bool true) ∧ w = w' := by
  obtain ⟨-, c1, -, -⟩ := h.cells
  clear h
  go_enter Tryz.func32, Tryz.ntmps32
  go_wp2
  go_ret
  exact ⟨rfl, rfl⟩
theorem known_no {w : World} {p q o l : Nat} {pg : Int} {nb : Nat} {S : Spots} (h : WhereAt w p q o l pg nb S) (i : Int) (hi : i < 0 ∨ (S.length : Int) ≤ i) :
    Calls Tryz.prog 32 #[.pointer (some ⟨p, 0, none⟩), .int .i64 i] w fun e w' => e = .returned (.bool false) ∧ w = w' := by
  obtain ⟨-, c1, -, -⟩ := h.cells
  clear h
  rcases hi with hi | hi
  · have h0 : ¬ 0 ≤ i := by omega
    go_enter Tryz.func32, Tryz.ntmps32
    go_wp2
    go_ret
    exact ⟨rfl, rfl⟩
  · have h0 : 0 ≤ i := by omega
    have h1 : ¬ i < S.length := by omega
    go_enter Tryz.func32, Tryz.ntmps32
    go_wp2
    go_ret
    exact ⟨rfl, rfl⟩
theorem known_nil (i : Int) (w : World) : Calls Tryz.prog 32 #[.pointer none, .int .i64 i] w fun e w' => e = .returned (.bool false) ∧ w = w' := by
  go_enter Tryz.func32, Tryz.ntmps32
  go_wp2
  go_ret
  exact ⟨rfl, rfl⟩
theorem block_yes {w : World} {p q o l : Nat} {pg : Int} {nb : Nat} {S : Spots} (h : WhereAt w p q o l pg nb S) (i : Nat) (hi : i < nb) :
    Calls Tryz.prog 66 #[.pointer (some ⟨p, 0, none⟩), .int .i64 (i : Int)] w fun e w' => e = .returned (.bool true) ∧ w = w' := by
  obtain ⟨-, -, -, c1⟩ := h.cells
  clear h
  go_enter Tryz.func66, Tryz.ntmps66
  go_wp2
  go_ret
  exact ⟨rfl, rfl⟩
theorem block_no {w : World} {p q o l : Nat} {pg : Int} {nb : Nat} {S : Spots} (h : WhereAt w p q o l pg nb S) (i : Int) (hi : i < 0 ∨ (nb : Int) ≤ i) :
    Calls Tryz.prog 66 #[.pointer (some ⟨p, 0, none⟩), .int .i64 i] w fun e w' => e = .returned (.bool false) ∧ w = w' := by
  obtain ⟨-, -, -, c1⟩ := h.cells
  clear h
  rcases hi with hi | hi
  · have h0 : ¬ 0 ≤ i := by omega
    go_enter Tryz.func66, Tryz.ntmps66
    go_wp2
    go_ret
    exact ⟨rfl, rfl⟩
  · have h0 : 0 ≤ i := by omega
    have h1 : ¬ i < nb := by omega
    go_enter Tryz.func66, Tryz.ntmps66
    go_wp2
    go_ret
    exact ⟨rfl, rfl⟩
theorem block_nil (i : Int) (w : World) : Calls Tryz.prog 66 #[.pointer none, .int .i64 i] w fun e w' => e = .returned (.bool false) ∧ w = w' := by
  go_enter Tryz.func66, Tryz.ntmps66
  go_wp2
  go_ret
  exact ⟨rfl, rfl⟩
end Go.Proofs.YtjfmkfhjbdiojaaGreat

namespace Go.Proofs.YtjfmkfhjbdiojaaGreat
set_option linter.unusedSimpArgs false
set_option linter.unusedVariables false
open Go.RowKit Go.Maps W

theorem _root_.Go.RowKit.Below.drewN {B : Nat} {a b : World} (h : Below B a b) (n : Nat) : Below B a (b.drewN n) := ⟨h.os, h.tape, h.output, h.size, h.block⟩
theorem zero_int (w : World) : (zeroValue 3).run Tryz.prog w = .ok (.int .i64 0) w := by kernel_rfl
/-- which logical page is at a place, as the program tells it -/
def ownZ (S : Spots) (b p : Int) : Int := match owner S (b, p) with | some i => (i : Int) | none => -1
theorem owner_any {w : World} {p q o l : Nat} {pg : Int} {nb : Nat} {S : Spots} (h : WhereAt w p q o l pg nb S) (b n : Int) (hb : I64 b) (hn : I64 n) :
    Calls Tryz.prog 67 #[.pointer (some ⟨p, 0, none⟩), .agg #[.int .i64 b, .int .i64 n]] w fun e w' => e = .returned (.int .i64 (ownZ S b n)) ∧ Below w.heap.size w w' := by
  obtain ⟨-, -, c2, -⟩ := h.cells
  obtain ⟨f, hm, hf⟩ := h.own
  have hlt := h.lt
  have hpl := hlt.1
  have hfb := hf b n hb hn
  have HK := hide (fun W (hW : W.heap[o]? = w.heap[o]?) => (hm.kept hW).look_ok KeyedP Tryz.underlying89 (zero_int W) (key_place hb hn) (isKey_pk b n))
  cases ho : owner S (b, n) with
  | none =>
    have HZ := hide (show -1 = ownZ S b n by unfold ownZ; rw [ho])
    rw [ho] at hfb
    rw [show f (pk b n) = none from hfb] at HK
    have hlk : ∀ k, (Instr.lookup 89 (.map (some o)) (.agg #[.int .i64 b, .int .i64 n]) true).run Tryz.prog ((w.alloc (.cells #[.int .i64 b, .int .i64 n] 41)).drewN k) = .ok (.tuple #[.int .i64 0, .bool false]) ((w.alloc (.cells #[.int .i64 b, .int .i64 n] 41)).drewN k) := fun k => HK.out _ (heap_old w _ o hlt.2.2.1)
    clear h hm hf hfb HK ho hlt
    go_enter Tryz.func67, Tryz.ntmps67
    go_wp2
    go_quiet (fail)
    go_wp2
    go_ret
    exact ⟨ret_int HZ.out, ((Below.refl _ _).alloc (Nat.le_refl _) _).drewN _⟩
  | some i =>
    have HZ := hide (show (i : Int) = ownZ S b n by unfold ownZ; rw [ho])
    rw [ho] at hfb
    rw [show f (pk b n) = some (.int .i64 i) from hfb] at HK
    have hlk : ∀ k, (Instr.lookup 89 (.map (some o)) (.agg #[.int .i64 b, .int .i64 n]) true).run Tryz.prog ((w.alloc (.cells #[.int .i64 b, .int .i64 n] 41)).drewN k) = .ok (.tuple #[.int .i64 i, .bool true]) ((w.alloc (.cells #[.int .i64 b, .int .i64 n] 41)).drewN k) := fun k => HK.out _ (heap_old w _ o hlt.2.2.1)
    clear h hm hf hfb HK ho hlt
    go_enter Tryz.func67, Tryz.ntmps67
    go_wp2
    go_quiet (fail)
    go_wp2
    go_ret
    exact ⟨ret_int HZ.out, ((Below.refl _ _).alloc (Nat.le_refl _) _).drewN _⟩
theorem owner_nil (b n : Int) (w : World) : Calls Tryz.prog 67 #[.pointer none, .agg #[.int .i64 b, .int .i64 n]] w fun e w' => e = .returned (.int .i64 (-1)) ∧ Below w.heap.size w w' := by
  go_enter Tryz.func67, Tryz.ntmps67
  go_wp2
  go_ret
  exact ⟨rfl, (Below.refl _ _).alloc (Nat.le_refl _) _⟩
theorem at_none {w : World} {p q o l : Nat} {pg : Int} {nb : Nat} {S : Spots} (h : WhereAt w p q o l pg nb S) (i : Nat) (hi : i < S.length) (hs : S.getD i none = none) :
    Calls Tryz.prog 11 #[.pointer (some ⟨p, 0, none⟩), .int .i64 (i : Int)] w fun e w' => e = .returned (.tuple #[.agg #[.int .i64 0, .int .i64 0], .bool false]) ∧ Below w.heap.size w w' := by
  have HW := hide h
  obtain ⟨-, c1, -, -⟩ := h.cells
  obtain ⟨d0, -⟩ := h.spot i hi 0 (by omega)
  obtain ⟨d1, -⟩ := h.spot i hi 1 (by omega)
  obtain ⟨d2, -⟩ := h.spot i hi 2 (by omega)
  obtain ⟨hpl, hql, -, -⟩ := h.lt
  rw [hs] at d0 d1 d2
  simp only [spotC, List.getElem?_cons_zero, List.getElem?_cons_succ, Nat.add_zero] at d0 d1 d2
  clear h hs
  go_enter Tryz.func11, Tryz.ntmps11
  go_wp2_with fail
  refine (known_yes (HW.out.below ((Below.refl _ _).alloc (Nat.le_refl _) _)) i hi).mono ?_
  rintro e w1 ⟨rfl, rfl⟩
  go_wp2
  go_region
  all_goals
    go_wp2
    exact bodyPost_ret (v := .tuple #[.agg #[.int .i64 0, .int .i64 0], .bool false]) (by simp [results, Tryz.results11, go_sem]) rfl ⟨rfl, (((Below.refl _ _).alloc (Nat.le_refl _) _).alloc (by simp) _).drew⟩
theorem at_some {w : World} {p q o l : Nat} {pg : Int} {nb : Nat} {S : Spots} (h : WhereAt w p q o l pg nb S) (i : Nat) (hi : i < S.length) (b n : Int) (hs : S.getD i none = some (b, n)) :
    Calls Tryz.prog 11 #[.pointer (some ⟨p, 0, none⟩), .int .i64 (i : Int)] w fun e w' => e = .returned (.tuple #[.agg #[.int .i64 b, .int .i64 n], .bool true]) ∧ Below w.heap.size w w' := by
  have HW := hide h
  obtain ⟨-, c1, -, -⟩ := h.cells
  obtain ⟨d0, -⟩ := h.spot i hi 0 (by omega)
  obtain ⟨d1, -⟩ := h.spot i hi 1 (by omega)
  obtain ⟨d2, -⟩ := h.spot i hi 2 (by omega)
  obtain ⟨hpl, hql, -, -⟩ := h.lt
  rw [hs] at d0 d1 d2
  simp only [spotC, List.getElem?_cons_zero, List.getElem?_cons_succ, Nat.add_zero] at d0 d1 d2
  clear h hs
  go_enter Tryz.func11, Tryz.ntmps11
  go_wp2_with fail
  refine (known_yes (HW.out.below ((Below.refl _ _).alloc (Nat.le_refl _) _)) i hi).mono ?_
  rintro e w1 ⟨rfl, rfl⟩
  go_wp2
  go_region
  all_goals
    go_wp2
    exact bodyPost_ret (v := .tuple #[.agg #[.int .i64 b, .int .i64 n], .bool true]) (by simp [results, Tryz.results11, go_sem]) rfl ⟨rfl, (((Below.refl _ _).alloc (Nat.le_refl _) _).alloc (by simp) _).drew⟩
theorem wat_no {w : World} {p q o l : Nat} {pg : Int} {nb : Nat} {S : Spots} (h : WhereAt w p q o l pg nb S) (i : Int) (hi : i < 0 ∨ (S.length : Int) ≤ i) :
    Calls Tryz.prog 11 #[.pointer (some ⟨p, 0, none⟩), .int .i64 i] w fun e w' => e = .returned (.tuple #[.agg #[.int .i64 0, .int .i64 0], .bool false]) ∧ Below w.heap.size w w' := by
  have HW := hide h
  clear h
  go_enter Tryz.func11, Tryz.ntmps11
  go_wp2_with fail
  refine (known_no (HW.out.below ((Below.refl _ _).alloc (Nat.le_refl _) _)) i hi).mono ?_
  rintro e w1 ⟨rfl, rfl⟩
  go_wp2
  exact bodyPost_ret (v := .tuple #[.agg #[.int .i64 0, .int .i64 0], .bool false]) (by simp [results, Tryz.results11, go_sem]) rfl ⟨rfl, (Below.refl _ _).alloc (Nat.le_refl _) _⟩
theorem wat_nil (i : Int) (w : World) :
    Calls Tryz.prog 11 #[.pointer none, .int .i64 i] w fun e w' => e = .returned (.tuple #[.agg #[.int .i64 0, .int .i64 0], .bool false]) ∧ Below w.heap.size w w' := by
  go_enter Tryz.func11, Tryz.ntmps11
  go_wp2_with fail
  refine (known_nil i _).mono ?_
  rintro e w1 ⟨rfl, rfl⟩
  go_wp2
  exact bodyPost_ret (v := .tuple #[.agg #[.int .i64 0, .int .i64 0], .bool false]) (by simp [results, Tryz.results11, go_sem]) rfl ⟨rfl, (Below.refl _ _).alloc (Nat.le_refl _) _⟩
theorem leave_none {w : World} {p q o l : Nat} {pg : Int} {nb : Nat} {S : Spots} (h : WhereAt w p q o l pg nb S) (i : Nat) (hi : i < S.length) (hs : S.getD i none = none) :
    Calls Tryz.prog 68 #[.pointer (some ⟨p, 0, none⟩), .int .i64 (i : Int)] w fun e w' => e = .returned (.tuple #[]) ∧ Below w.heap.size w w' := by
  obtain ⟨-, c1, -, -⟩ := h.cells
  obtain ⟨d0, -⟩ := h.spot i hi 0 (by omega)
  obtain ⟨d1, -⟩ := h.spot i hi 1 (by omega)
  obtain ⟨d2, -⟩ := h.spot i hi 2 (by omega)
  obtain ⟨hpl, hql, -, -⟩ := h.lt
  rw [hs] at d0 d1 d2
  simp only [spotC, List.getElem?_cons_zero, List.getElem?_cons_succ, Nat.add_zero] at d0 d1 d2
  clear h hs
  go_enter Tryz.func68, Tryz.ntmps68
  go_wp2
  exact bodyPost_ret (v := .tuple #[]) (by simp [results, Tryz.results68, go_sem]) rfl ⟨rfl, (Below.refl _ _).alloc (Nat.le_refl _) _⟩
theorem setCell_far {w : World} {b o l j : Nat} {u v : Value} (h : w.cell? ⟨b, o, none⟩ = some u) (hn : b ≠ l) : (w.setCell ⟨l, j, none⟩ v).cell? ⟨b, o, none⟩ = some u := by
  rw [← h]; simp only [World.cell?, block_setCell_other (Ne.symm hn)]
theorem getD_some {S : Spots} {i : Nat} {x : Int × Int} (h : S.getD i none = some x) : S[i]? = some (some x) := by
  simp only [List.getD] at h
  cases e : S[i]? with
  | none => rw [e] at h; cases h
  | some y => rw [e] at h; simp at h; rw [h]
theorem live_pos (S : Spots) (i : Nat) (b n : Int) (h : S.getD i none = some (b, n)) : 1 ≤ liveN S b := by
  have h2 := List.mem_of_getElem? (getD_some h)
  exact List.countP_pos_iff.2 ⟨_, h2, by simp⟩
/-- the parts of a map, each by itself -/
structure WParts (w : World) (p q o l : Nat) (pg : Int) (nb : Nat) (S : Spots) (L : List Int) (c : Nat) (f : Lit → Option Value) : Prop where
  head : w.heap[p]? = some (.cells #[.int .i64 pg, .slice (some ⟨q, 0, none⟩) S.length S.length, .map (some o), .slice (some ⟨l, 0, none⟩) nb nb] 91 (0, 0))
  row : w.heap[q]? = some (.cells (S.flatMap spotC).toArray 87 (0, 0))
  live : w.heap[l]? = some (.cells (L.map (Value.int .i64)).toArray 3 (0, 0))
  own : MapIs w Tryz.prog 41 o c c f
  apart : [p, q, o, l].Nodup
def liveZ (S : Spots) (nb : Nat) : List Int := (List.range nb).map fun (b : Nat) => ((liveN S (b : Int) : Nat) : Int)
theorem liveZ_map (S : Spots) (nb : Nat) : (liveZ S nb).map (Value.int .i64) = liveL S nb := by simp [liveZ, liveL, Function.comp_def]
theorem liveZ_len (S : Spots) (nb : Nat) : (liveZ S nb).length = nb := by simp [liveZ]
theorem liveZ_at (S : Spots) (nb b : Nat) (h : b < nb) : (liveZ S nb).getD b 0 = (liveN S (b : Int) : Nat) := by simp [liveZ, List.getD, h]
theorem WhereAt.parts {w : World} {p q o l : Nat} {pg : Int} {nb : Nat} {S : Spots} (h : WhereAt w p q o l pg nb S) : ∃ f, WParts w p q o l pg nb S (liveZ S nb) (total S) f ∧ ∀ b p, I64 b → I64 p → f (pk b p) = (owner S (b, p)).map (fun i : Nat => Value.int .i64 (i : Int)) := by
  obtain ⟨f, h1, h2⟩ := h.own
  exact ⟨f, ⟨h.head, h.row, by rw [liveZ_map]; exact h.live, h1, h.apart⟩, h2⟩
section
variable {w : World} {p q o l : Nat} {pg : Int} {nb : Nat} {S : Spots} {L : List Int} {c : Nat} {f : Lit → Option Value}
theorem WParts.lt (h : WParts w p q o l pg nb S L c f) : p < w.heap.size ∧ q < w.heap.size ∧ o < w.heap.size ∧ l < w.heap.size := ⟨heap_lt h.head, heap_lt h.row, h.own.lt, heap_lt h.live⟩
theorem WParts.kept {w' : World} (h : WParts w p q o l pg nb S L c f) (hp : w'.heap[p]? = w.heap[p]?) (hq : w'.heap[q]? = w.heap[q]?) (ho : w'.heap[o]? = w.heap[o]?) (hl : w'.heap[l]? = w.heap[l]?) : WParts w' p q o l pg nb S L c f :=
  ⟨hp.trans h.head, hq.trans h.row, hl.trans h.live, h.own.kept ho, h.apart⟩
theorem WParts.drew (h : WParts w p q o l pg nb S L c f) : WParts w.drew p q o l pg nb S L c f := h.kept rfl rfl rfl rfl
theorem WParts.below {w' : World} (h : WParts w p q o l pg nb S L c f) (hb : Below w.heap.size w w') : WParts w' p q o l pg nb S L c f :=
  let ⟨a, b, c, d⟩ := h.lt; h.kept (hb.block _ a) (hb.block _ b) (hb.block _ c) (hb.block _ d)
theorem WParts.ne (h : WParts w p q o l pg nb S L c f) : p ≠ q ∧ p ≠ o ∧ p ≠ l ∧ q ≠ o ∧ q ≠ l ∧ o ≠ l := by
  have := h.apart
  simp only [List.nodup_cons, List.mem_cons, List.not_mem_nil, or_false, not_or, List.nodup_nil, and_true, not_false_eq_true] at this
  exact ⟨this.1.1, this.1.2.1, this.1.2.2, this.2.1.1, this.2.1.2, this.2.2⟩
theorem WParts.mapped {w' : World} {c' : Nat} {f' : Lit → Option Value} (h : WParts w p q o l pg nb S L c f) (hg : Only o w w') (hm : MapIs w' Tryz.prog 41 o c' c' f') : WParts w' p q o l pg nb S L c' f' :=
  let ⟨a, b, cc, d⟩ := h.lt; let ⟨n1, n2, n3, n4, n5, n6⟩ := h.ne
  ⟨(hg.block _ a n2).trans h.head, (hg.block _ b n4).trans h.row, (hg.block _ d (Ne.symm n6)).trans h.live, hm, h.apart⟩
theorem WParts.setLive (h : WParts w p q o l pg nb S L c f) (b : Nat) (v : Int) : WParts (w.setCell ⟨l, b, none⟩ (.int .i64 v)) p q o l pg nb S (L.set b v) c f :=
  let ⟨n1, n2, n3, n4, n5, n6⟩ := h.ne
  ⟨by rw [block_setCell_other (Ne.symm n3)]; exact h.head, by rw [block_setCell_other (Ne.symm n5)]; exact h.row, by rw [block_setCell h.live]; simp, h.own.kept (block_setCell_other (Ne.symm n6) _ _), h.apart⟩
theorem WParts.cells (h : WParts w p q o l pg nb S L c f) :
    w.cell? ⟨p, 0, none⟩ = some (.int .i64 pg) ∧ w.cell? ⟨p, 1, none⟩ = some (.slice (some ⟨q, 0, none⟩) S.length S.length) ∧ w.cell? ⟨p, 2, none⟩ = some (.map (some o)) ∧ w.cell? ⟨p, 3, none⟩ = some (.slice (some ⟨l, 0, none⟩) nb nb) :=
  ⟨by rw [cell_of_block h.head]; rfl, by rw [cell_of_block h.head]; rfl, by rw [cell_of_block h.head]; rfl, by rw [cell_of_block h.head]; rfl⟩
theorem WParts.spot (h : WParts w p q o l pg nb S L c f) (i : Nat) (hi : i < S.length) (j : Nat) (hj : j < 3) :
    w.cell? ⟨q, i * 3 + j, none⟩ = (spotC (S.getD i none))[j]? ∧ w.frozen? ⟨q, i * 3 + j, none⟩ = false :=
  ⟨by rw [cell_of_block h.row, ← flat_at spotC 3 spotC_len none S i j hi hj]; simp, frozen_of_block h.row _⟩
theorem WParts.lv (h : WParts w p q o l pg nb S L c f) (b : Nat) (hb : b < L.length) :
    w.cell? ⟨l, b, none⟩ = some (.int .i64 (L.getD b 0)) ∧ w.frozen? ⟨l, b, none⟩ = false :=
  ⟨by rw [cell_of_block h.live]; simp [List.getD, hb], frozen_of_block h.live _⟩
end
theorem flat_set3 : ∀ (S : Spots) (i : Nat) (x : Option (Int × Int)) (v0 v1 v2 : Value), i < S.length → spotC x = [v0, v1, v2] →
    (((S.flatMap spotC).set (i * 3) v0).set (i * 3 + 1) v1).set (i * 3 + 2) v2 = (S.set i x).flatMap spotC
  | [], i, x, v0, v1, v2, h, _ => by simp at h
  | a :: S, 0, x, v0, v1, v2, _, hx => by
    have ha : ∃ a0 a1 a2, spotC a = [a0, a1, a2] := by unfold spotC; split <;> exact ⟨_, _, _, rfl⟩
    obtain ⟨a0, a1, a2, ha⟩ := ha
    simp [List.flatMap_cons, ha, hx]
  | a :: S, i + 1, x, v0, v1, v2, h, hx => by
    have ha : ∃ a0 a1 a2, spotC a = [a0, a1, a2] := by unfold spotC; split <;> exact ⟨_, _, _, rfl⟩
    obtain ⟨a0, a1, a2, ha⟩ := ha
    have ih := flat_set3 S i x v0 v1 v2 (by simpa using h) hx
    rw [show (i + 1) * 3 = i * 3 + 1 + 1 + 1 by omega]
    simp only [List.flatMap_cons, ha, List.set_cons_succ, List.cons_append, List.nil_append]
    rw [ih]
theorem WParts.setSpot {w : World} {p q o l : Nat} {pg : Int} {nb : Nat} {S : Spots} {L : List Int} {c : Nat} {f : Lit → Option Value} (h : WParts w p q o l pg nb S L c f) (i : Nat) (hi : i < S.length) (x : Option (Int × Int)) (v0 v1 v2 : Value) (hx : spotC x = [v0, v1, v2]) :
    WParts (((w.setCell ⟨q, i * 3, none⟩ v0).setCell ⟨q, i * 3 + 1, none⟩ v1).setCell ⟨q, i * 3 + 2, none⟩ v2) p q o l pg nb (S.set i x) L c f := by
  obtain ⟨n1, n2, n3, n4, n5, n6⟩ := h.ne
  have far : ∀ k, q ≠ k → (((w.setCell ⟨q, i * 3, none⟩ v0).setCell ⟨q, i * 3 + 1, none⟩ v1).setCell ⟨q, i * 3 + 2, none⟩ v2).heap[k]? = w.heap[k]? := fun k hk => by rw [block_setCell_other hk, block_setCell_other hk, block_setCell_other hk]
  refine ⟨by rw [far p (Ne.symm n1), List.length_set]; exact h.head, ?_, by rw [far l n5]; exact h.live, h.own.kept (far o n4), h.apart⟩
  rw [block_setCell (block_setCell (block_setCell h.row _ _) _ _) _ _, ← flat_set3 S i x v0 v1 v2 hi hx]
  simp
theorem WhereAt.drew {w : World} {p q o l : Nat} {pg : Int} {nb : Nat} {S : Spots} (h : WhereAt w p q o l pg nb S) : WhereAt w.drew p q o l pg nb S := h.kept rfl rfl rfl rfl
theorem WhereAt.drewN {w : World} {p q o l : Nat} {pg : Int} {nb : Nat} {S : Spots} (h : WhereAt w p q o l pg nb S) (k : Nat) : WhereAt (w.drewN k) p q o l pg nb S := h.kept rfl rfl rfl rfl
theorem WParts.whole {w : World} {p q o l : Nat} {pg : Int} {nb : Nat} {S : Spots} {L : List Int} {c : Nat} {f : Lit → Option Value} (h : WParts w p q o l pg nb S L c f) (hL : L = liveZ S nb) (hc : c = total S)
    (hf : ∀ b p, I64 b → I64 p → f (pk b p) = (owner S (b, p)).map (fun i : Nat => Value.int .i64 (i : Int))) (hi : Inj S) (ok : ∀ (i : Nat) b p, S[i]? = some (some (b, p)) → 0 ≤ b ∧ b < nb ∧ 0 ≤ p ∧ p < pg) (big : pg ≤ 64 ∧ nb ≤ 256 ∧ S.length ≤ 4096) : WhereAt w p q o l pg nb S := by
  subst hL hc
  exact ⟨h.head, h.row, by rw [← liveZ_map]; exact h.live, ⟨f, h.own, hf⟩, hi, ok, big, h.apart⟩
theorem liveN_set {S : Spots} {i : Nat} (hl : i < S.length) (v : Option (Int × Int)) (b : Int) : liveN (S.set i v) b + (if (S.getD i none).any (·.1 == b) = true then 1 else 0) = liveN S b + (if v.any (·.1 == b) = true then 1 else 0) := countP_set hl v
theorem liveZ_drop {S : Spots} {i b n nb : Nat} {v : Int} (hs : S.getD i none = some ((b : Int), (n : Int))) (hb : b < nb) (hv : v = ((liveN S (b : Int) : Nat) : Int) - 1) : (liveZ S nb).set b v = liveZ (S.set i none) nb := by
  have hl : i < S.length := (List.getElem?_eq_some_iff.1 (getD_some hs)).1
  apply List.ext_getElem (by simp [liveZ])
  intro j h1 h2
  have hj : j < nb := by simpa [liveZ] using h2
  have := liveN_set hl none (j : Int)
  rw [hs] at this
  rw [List.getElem_set]
  simp only [liveZ, List.getElem_map, List.getElem_range]
  by_cases e : b = j
  · subst e; rw [if_pos rfl, hv]; simp at this; omega
  · rw [if_neg e]
    simp [show ¬ ((b : Int) = (j : Int)) by omega] at this
    omega
theorem total_drop {S : Spots} {i : Nat} {x : Int × Int} {c : Option Value} (hs : S.getD i none = some x) (hl : i < S.length) (hc : c.isSome = true) : (total S - if c.isSome = true then 1 else 0) = total (S.set i none) := by
  have := countP_set (p := Option.isSome) hl none
  rw [hs] at this
  simp at this
  rw [if_pos hc]
  unfold total
  omega
theorem owners_drop {S : Spots} {i : Nat} {b n : Int} {f : Lit → Option Value} (hi : Inj S) (hs : S.getD i none = some (b, n)) (hbn : I64 b ∧ I64 n) (hf : ∀ b p, I64 b → I64 p → f (pk b p) = (owner S (b, p)).map (fun i : Nat => Value.int .i64 (i : Int))) :
    ∀ b' p', I64 b' → I64 p' → (fun l : Lit => if l.sameKey (pk b n) = true then none else f l) (pk b' p') = (owner (S.set i none) (b', p')).map (fun i : Nat => Value.int .i64 (i : Int)) := by
  intro b' p' hb' hp'
  rw [owner_drop hi]
  dsimp only
  have hs' := getD_some hs
  by_cases e : pk b' p' = pk b n
  · obtain ⟨rfl, rfl⟩ := pk_inj hb' hp' hbn.1 hbn.2 e
    rw [if_pos (WideAt.sameKey_self (isKey_pk _ _)), if_pos hs']
    rfl
  · rw [if_neg (fun h => e (WideAt.sameKey_eq h)), if_neg ?_, hf b' p' hb' hp']
    intro h
    rw [hs'] at h
    simp only [Option.some.injEq, Prod.mk.injEq] at h
    exact e (by rw [h.1, h.2])
theorem ok_drop {S : Spots} {nb : Nat} {pg : Int} (ok : ∀ (i : Nat) b p, S[i]? = some (some (b, p)) → 0 ≤ b ∧ b < nb ∧ 0 ≤ p ∧ p < pg) (j : Nat) : ∀ (i : Nat) b p, (S.set j none)[i]? = some (some (b, p)) → 0 ≤ b ∧ b < nb ∧ 0 ≤ p ∧ p < pg := by
  intro i b p h
  rw [List.getElem?_set] at h
  split at h
  · split at h <;> cases h
  · exact ok i b p h
set_option maxRecDepth 100000 in
theorem leave_some {w : World} {p q o l : Nat} {pg : Int} {nb : Nat} {S : Spots} (h : WhereAt w p q o l pg nb S) (i : Nat) (hi : i < S.length) (b n : Nat) (hs : S.getD i none = some ((b : Int), (n : Int))) (hbn : b < nb) (hin : I64 b ∧ I64 n) :
    Calls Tryz.prog 68 #[.pointer (some ⟨p, 0, none⟩), .int .i64 (i : Int)] w fun e w' => e = .returned (.tuple #[]) ∧ WhereAt w' p q o l pg nb (S.set i none) ∧ OnlyL [q, o, l] w w' := by
  obtain ⟨-, c1, c2, c3⟩ := h.cells
  obtain ⟨d0, f0⟩ := h.spot i hi 0 (by omega)
  obtain ⟨d1, f1⟩ := h.spot i hi 1 (by omega)
  obtain ⟨d2, f2⟩ := h.spot i hi 2 (by omega)
  obtain ⟨hpl, hql, hol, hll⟩ := h.lt
  obtain ⟨e0, g0⟩ := h.lv b hbn
  rw [hs] at d0 d1 d2
  simp only [spotC, List.getElem?_cons_zero, List.getElem?_cons_succ, Nat.add_zero] at d0 d1 d2 f0
  have HH := hide (h.below ((Below.refl _ _).alloc (Nat.le_refl _) (.cells #[.int .i64 (b : Int), .int .i64 (n : Int), .bool true] 87)))
  have HI := hide (show I64 b ∧ I64 n from hin)
  have HS := hide hs
  have HL := hide (live_pos S i b n hs)
  have HL2 := hide (Nat.le_trans (live_le S b) (Nat.le_trans (total_le S) h.big.2.2))
  have HOB := hide hol
  have HOW := hide ((OnlyL.refl [q, o, l] w).alloc (.cells #[.int .i64 (b : Int), .int .i64 (n : Int), .bool true] 87))
  have HB := hide ((Below.refl w.heap.size w).alloc (Nat.le_refl _) (.cells #[.int .i64 (b : Int), .int .i64 (n : Int), .bool true] 87))
  have HN := hide (heap_new w (.cells #[.int .i64 (b : Int), .int .i64 (n : Int), .bool true] 87))
  go_enter Tryz.func68, Tryz.ntmps68
  go_wp2
  clear h hs hin c1 c2 c3 d0 d1 d2 f0 f1 f2 e0 g0 hpl hql hol hll
  generalize w.alloc (.cells #[.int .i64 (b : Int), .int .i64 (n : Int), .bool true] 87) = W at *
  generalize w.heap.size = B at *
  obtain ⟨f, hw, hf⟩ := HH.out.parts
  have HF := hide hf
  have HW := hide hw
  obtain ⟨-, c1, c2, c3⟩ := hw.cells
  have n0 : W.cell? ⟨B, 0, none⟩ = some (.int .i64 (b : Int)) := by rw [cell_of_block HN.out]; rfl
  have n1 : W.cell? ⟨B, 1, none⟩ = some (.int .i64 (n : Int)) := by rw [cell_of_block HN.out]; rfl
  clear hf hw
  go_still_tail 6, (by kernel_rfl)
  change wpList _ _ _ _ _ W.drew
  refine wpList_mapDrop _ rfl _ _ 89 41 rfl 3 KeyedP Tryz.underlying89 o _ _ f rfl HW.out.drew.own _ (pk b n) rfl (key_place HI.out.1 HI.out.2) (isKey_pk _ _) ?_
  intro w2 hm2 hg2
  have ho2 := only_of_grown hg2
  have HW2 := hide (HW.out.drew.mapped ho2 hm2.tight)
  have HO2 := hide ho2
  have HN2 := hide ((ho2.block B (heap_lt HN.out) (by have := HOB.out; omega)).trans HN.out)
  clear hm2 hg2 ho2 c1 c2 c3 n0 n1
  go_wp2
  obtain ⟨-, c1, c2, c3⟩ := HW2.out.cells
  obtain ⟨e0, g0⟩ := HW2.out.lv b (by rw [liveZ_len]; exact hbn)
  have n0 : w2.cell? ⟨B, 0, none⟩ = some (.int .i64 (b : Int)) := by rw [cell_of_block HN2.out]; rfl
  rw [liveZ_at _ _ _ hbn] at e0
  obtain ⟨d0, f0⟩ := HW2.out.spot i hi 0 (by omega)
  obtain ⟨d1, f1⟩ := HW2.out.spot i hi 1 (by omega)
  obtain ⟨d2, f2⟩ := HW2.out.spot i hi 2 (by omega)
  rw [HS.out] at d0 d1 d2
  simp only [spotC, List.getElem?_cons_zero, List.getElem?_cons_succ, Nat.add_zero] at d0 d1 d2 f0
  have hne := HW2.out.ne
  have C1 := fun v => setCell_far (l := l) (j := b) (v := v) c1 hne.2.2.1
  have D0 := fun v => setCell_far (l := l) (j := b) (v := v) d0 hne.2.2.2.2.1
  have D1 := fun v => setCell_far (l := l) (j := b) (v := v) d1 hne.2.2.2.2.1
  have D2 := fun v => setCell_far (l := l) (j := b) (v := v) d2 hne.2.2.2.2.1
  have HX := hide (HW2.out.setLive b ((liveN S (b : Int) : Nat) - 1 : Int))
  have hl1 : (1 : Int) ≤ ((liveN S (b : Int) : Nat) : Int) := by have := HL.out; omega
  have hl2 : ((liveN S (b : Int) : Nat) : Int) ≤ 4096 := by have := HL2.out; omega
  have HSM := hide (show (f (pk b n)).isSome = true by rw [HF.out b n HI.out.1 HI.out.2, owner_is HH.out.inj (getD_some HS.out)]; rfl)
  generalize hx : ((liveN S (b : Int) : Nat) : Int) = x at *
  have HXL := hide hx
  clear hx hne d0 d1 d2
  go_still_tail 11, (by kernel_rfl)
  change wpList _ _ _ _ _ w2.drew
  go_wp2_with fail
  go_end0
  refine ⟨rfl, (WParts.whole (HX.out.setSpot i hi none _ _ _ rfl) (liveZ_drop HS.out hbn (by rw [HXL.out])) (total_drop HS.out hi HSM.out) (owners_drop HH.out.inj HS.out HI.out HF.out) (HH.out.inj.drop i) (ok_drop HH.out.ok i) (by rw [List.length_set]; exact HH.out.big)).drew, ?_⟩
  exact (((((HOW.out.trans (OnlyL.of_only (Only.refl o W).drew (by simp))).trans (OnlyL.of_only HO2.out (by simp))).trans (OnlyL.setCell (by simp) _ _)).trans (OnlyL.setCell (by simp) _ _)).trans (OnlyL.setCell (by simp) _ _)).trans ((OnlyL.setCell (by simp) _ _).drew)
theorem leave_any {w : World} {p q o l : Nat} {pg : Int} {nb : Nat} {S : Spots} (h : WhereAt w p q o l pg nb S) (i : Nat) (hi : i < S.length) :
    Calls Tryz.prog 68 #[.pointer (some ⟨p, 0, none⟩), .int .i64 (i : Int)] w fun e w' => e = .returned (.tuple #[]) ∧ WhereAt w' p q o l pg nb (S.set i none) ∧ OnlyL [q, o, l] w w' := by
  cases hs : S.getD i none with
  | none =>
    refine (leave_none h i hi hs).mono ?_
    rintro e w' ⟨rfl, hb⟩
    refine ⟨rfl, ?_, .of_below hb⟩
    have : S.set i none = S := by
      apply List.ext_getElem?
      intro j
      rw [List.getElem?_set]
      split
      · rename_i e; subst e; rw [List.getElem?_eq_getElem hi]; simp only [List.getD, List.getElem?_eq_getElem hi, Option.getD_some] at hs; rw [hs]
      · rfl
    rw [this]
    exact h.below hb
  | some x =>
    obtain ⟨b, n⟩ := x
    obtain ⟨b0, b1, n0, n1⟩ := h.ok i b n (getD_some hs)
    have := h.big
    obtain ⟨b', rfl⟩ := Int.eq_ofNat_of_zero_le b0
    obtain ⟨n', rfl⟩ := Int.eq_ofNat_of_zero_le n0
    exact leave_some h i hi b' n' hs (by omega) ⟨⟨by omega, by omega⟩, ⟨by omega, by omega⟩⟩
end Go.Proofs.YtjfmkfhjbdiojaaGreat

namespace Go.Proofs.YtjfmkfhjbdiojaaGreat
set_option linter.unusedSimpArgs false
set_option linter.unusedVariables false
open Go.RowKit Go.Maps W

section
variable {w : World} {p q o l : Nat} {pg : Int} {nb : Nat} {S : Spots}
set_option maxRecDepth 100000 in
theorem live_yes (h : WhereAt w p q o l pg nb S) (b : Nat) (hb : b < nb) :
    Calls Tryz.prog 54 #[.pointer (some ⟨p, 0, none⟩), .int .i64 (b : Int)] w fun e w' => e = .returned (.int .i64 ((liveN S (b : Int) : Nat) : Int)) ∧ w = w' := by
  have HW := hide h
  obtain ⟨-, -, -, c3⟩ := h.cells
  obtain ⟨e0, -⟩ := h.lv b hb
  clear h
  generalize liveN S (b : Int) = x at *
  go_enter Tryz.func54, Tryz.ntmps54
  go_wp2_with fail
  refine (block_yes HW.out b hb).mono ?_
  rintro e w1 ⟨rfl, rfl⟩
  go_wp2
  go_ret
  exact ⟨rfl, rfl⟩
set_option maxRecDepth 100000 in
theorem live_no (h : WhereAt w p q o l pg nb S) (b : Int) (hb : b < 0 ∨ (nb : Int) ≤ b) :
    Calls Tryz.prog 54 #[.pointer (some ⟨p, 0, none⟩), .int .i64 b] w fun e w' => e = .returned (.int .i64 0) ∧ w = w' := by
  have HW := hide h
  clear h
  go_enter Tryz.func54, Tryz.ntmps54
  go_wp2_with fail
  refine (block_no HW.out b hb).mono ?_
  rintro e w1 ⟨rfl, rfl⟩
  go_wp2
  go_ret
  exact ⟨rfl, rfl⟩
set_option maxRecDepth 100000 in
theorem live_nil (b : Int) (w : World) :
    Calls Tryz.prog 54 #[.pointer none, .int .i64 b] w fun e w' => e = .returned (.int .i64 0) ∧ w = w' := by
  go_enter Tryz.func54, Tryz.ntmps54
  go_wp2_with fail
  refine (block_nil b _).mono ?_
  rintro e w1 ⟨rfl, rfl⟩
  go_wp2
  go_ret
  exact ⟨rfl, rfl⟩
set_option maxRecDepth 100000 in
theorem total_nil (w : World) :
    Calls Tryz.prog 15 #[.pointer none] w fun e w' => e = .returned (.int .i64 0) ∧ w = w' := by
  go_enter Tryz.func15, Tryz.ntmps15
  go_wp2
  go_ret
  exact ⟨rfl, rfl⟩
set_option maxRecDepth 100000 in
theorem total_any (h : WhereAt w p q o l pg nb S) :
    Calls Tryz.prog 15 #[.pointer (some ⟨p, 0, none⟩)] w fun e w' => e = .returned (.int .i64 (total S : Nat)) ∧ w = w' := by
  obtain ⟨-, -, c2, -⟩ := h.cells
  obtain ⟨f, hm, -⟩ := h.own
  have HM := hide hm
  generalize total S = x at *
  clear h hm
  go_enter Tryz.func15, Tryz.ntmps15
  go_wp2_with (at_len; refine wpList_mapLen _ rfl _ 89 rfl 41 3 Tryz.underlying89 o x x f rfl HM.out ?_)
  go_ret
  exact ⟨rfl, rfl⟩
set_option maxRecDepth 100000 in
theorem wput_nil (i b n : Int) (w : World) :
    Calls Tryz.prog 31 #[.pointer none, .int .i64 i, .agg #[.int .i64 b, .int .i64 n]] w fun e w' => e = .returned (.int .i64 1) ∧ Below w.heap.size w w' := by
  go_enter Tryz.func31, Tryz.ntmps31
  go_wp2
  go_ret
  exact ⟨rfl, (Below.refl _ _).alloc (Nat.le_refl _) _⟩
set_option maxRecDepth 100000 in
theorem put_bad1 (h : WhereAt w p q o l pg nb S) (i b n : Int) (hi : i < 0 ∨ (S.length : Int) ≤ i) :
    Calls Tryz.prog 31 #[.pointer (some ⟨p, 0, none⟩), .int .i64 i, .agg #[.int .i64 b, .int .i64 n]] w fun e w' => e = .returned (.int .i64 3) ∧ Below w.heap.size w w' := by
  have HW := hide (h.below ((Below.refl _ _).alloc (Nat.le_refl _) (.cells #[.int .i64 b, .int .i64 n] 41)))
  clear h
  go_enter Tryz.func31, Tryz.ntmps31
  go_wp2
  go_quiet ((go_at_call 32; exact quiet_eq (known_no (HW.out.drewN _) i hi)))
  go_wp2
  go_ret
  exact ⟨rfl, ((Below.refl _ _).alloc (Nat.le_refl _) _).drewN _⟩
set_option maxRecDepth 100000 in
theorem put_bad2 (h : WhereAt w p q o l pg nb S) (i : Nat) (b n : Int) (hi : i < S.length) (hb : b < 0 ∨ (nb : Int) ≤ b) :
    Calls Tryz.prog 31 #[.pointer (some ⟨p, 0, none⟩), .int .i64 (i : Int), .agg #[.int .i64 b, .int .i64 n]] w fun e w' => e = .returned (.int .i64 3) ∧ Below w.heap.size w w' := by
  have HW := hide (h.below ((Below.refl _ _).alloc (Nat.le_refl _) (.cells #[.int .i64 b, .int .i64 n] 41)))
  clear h
  go_enter Tryz.func31, Tryz.ntmps31
  go_wp2
  go_quiet ((first | (go_at_call 32; exact quiet_eq (known_yes (HW.out.drewN _) i hi)) | (go_at_call 66; exact quiet_eq (block_no (HW.out.drewN _) b hb))))
  go_wp2
  go_ret
  exact ⟨rfl, ((Below.refl _ _).alloc (Nat.le_refl _) _).drewN _⟩
set_option maxRecDepth 100000 in
theorem put_bad3 (h : WhereAt w p q o l pg nb S) (i b : Nat) (n : Int) (hi : i < S.length) (hb : b < nb) (hn : n < 0 ∨ pg ≤ n) :
    Calls Tryz.prog 31 #[.pointer (some ⟨p, 0, none⟩), .int .i64 (i : Int), .agg #[.int .i64 (b : Int), .int .i64 n]] w fun e w' => e = .returned (.int .i64 3) ∧ Below w.heap.size w w' := by
  have HW := hide (h.below ((Below.refl _ _).alloc (Nat.le_refl _) (.cells #[.int .i64 (b : Int), .int .i64 n] 41)))
  have hpl := h.lt.1
  obtain ⟨c0, -⟩ := h.cells
  clear h
  by_cases h0 : n < 0
  · clear hn
    go_enter Tryz.func31, Tryz.ntmps31
    go_wp2
    go_quiet ((first | (go_at_call 32; exact quiet_eq (known_yes (HW.out.drewN _) i hi)) | (go_at_call 66; exact quiet_eq (block_yes (HW.out.drewN _) b hb))))
    go_wp2
    go_ret
    exact ⟨rfl, ((Below.refl _ _).alloc (Nat.le_refl _) _).drewN _⟩
  · have h1 : pg ≤ n := by omega
    have hd : decide (n < 0) = false := by simpa using h0
    clear hn h0
    go_enter Tryz.func31, Tryz.ntmps31
    go_wp2
    go_quiet ((first | (go_at_call 32; exact quiet_eq (known_yes (HW.out.drewN _) i hi)) | (go_at_call 66; exact quiet_eq (block_yes (HW.out.drewN _) b hb))))
    go_wp2
    go_ret
    exact ⟨rfl, ((Below.refl _ _).alloc (Nat.le_refl _) _).drewN _⟩
set_option maxRecDepth 100000 in
theorem put_there (h : WhereAt w p q o l pg nb S) (i b n j : Nat) (hi : i < S.length) (hb : b < nb) (hn : (n : Int) < pg) (hj : owner S ((b : Int), (n : Int)) = some j) (hji : j ≠ i) :
    Calls Tryz.prog 31 #[.pointer (some ⟨p, 0, none⟩), .int .i64 (i : Int), .agg #[.int .i64 (b : Int), .int .i64 (n : Int)]] w fun e w' => e = .returned (.int .i64 16) ∧ Below w.heap.size w w' := by
  have HW := hide (h.below ((Below.refl _ _).alloc (Nat.le_refl _) (.cells #[.int .i64 (b : Int), .int .i64 (n : Int)] 41)))
  have hpl := h.lt.1
  obtain ⟨c0, -⟩ := h.cells
  have hbig := h.big
  have HI := hide (show I64 b ∧ I64 n from ⟨⟨by omega, by omega⟩, ⟨by omega, by omega⟩⟩)
  have HZ := hide (show ownZ S b n = (j : Int) by unfold ownZ; rw [hj])
  have t1 : ((j : Int) == (i : Int)) = false := by simp; omega
  have t1' : ((j : Int) != (i : Int)) = true := by simp; omega
  have t2 : ((j : Int) == -1) = false := by simp
  have hd : decide ((n : Int) < 0) = false := by simp
  have hd2 : decide (pg ≤ (n : Int)) = false := by simp; omega
  clear h hj hbig hji
  go_enter Tryz.func31, Tryz.ntmps31
  go_wp2
  go_quiet ((first | (go_at_call 32; exact quiet_eq (known_yes (HW.out.drewN _) i hi)) | (go_at_call 66; exact quiet_eq (block_yes (HW.out.drewN _) b hb))))
  go_wp2_with fail
  refine (owner_any (HW.out.drewN _) b n HI.out.1 HI.out.2).mono ?_
  rintro e w1 ⟨rfl, hb1⟩
  have HB1 := hide hb1
  rw [HZ.out]
  clear hb1
  go_wp2
  go_ret
  exact ⟨rfl, (((Below.refl _ _).alloc (Nat.le_refl _) _).drewN _).trans (HB1.out.mono (by simp))⟩
set_option maxRecDepth 100000 in
theorem owner_free (hi : Inj S) {x : Int × Int} {i : Nat} (hj : owner S x = none ∨ owner S x = some i) : owner (S.set i none) x = none := by
  rw [owner_drop hi]
  rcases hj with hj | hj
  · rw [hj]; split <;> rfl
  · rw [if_pos (owner_some hj)]
set_option maxRecDepth 100000 in
theorem liveZ_put {i b n nb : Nat} {v : Int} (hs : S.getD i none = none) (hl : i < S.length) (hb : b < nb) (hv : v = ((liveN S (b : Int) : Nat) : Int) + 1) : (liveZ S nb).set b v = liveZ (S.set i (some ((b : Int), (n : Int)))) nb := by
  apply List.ext_getElem (by simp [liveZ])
  intro j h1 h2
  have hj : j < nb := by simpa [liveZ] using h2
  have := liveN_set hl (some ((b : Int), (n : Int))) (j : Int)
  rw [hs] at this
  rw [List.getElem_set]
  simp only [liveZ, List.getElem_map, List.getElem_range]
  by_cases e : b = j
  · subst e; rw [if_pos rfl, hv]; simp at this; omega
  · rw [if_neg e]
    simp [show ¬ ((b : Int) = (j : Int)) by omega] at this
    omega
set_option maxRecDepth 100000 in
theorem total_put {i : Nat} {x : Int × Int} {c : Option Value} (hs : S.getD i none = none) (hl : i < S.length) (hc : c = none) : (if c.isSome = true then total S else total S + 1) = total (S.set i (some x)) := by
  have := countP_set (p := Option.isSome) hl (some x)
  rw [hs] at this
  subst hc
  simp at this ⊢
  unfold total
  omega
set_option maxRecDepth 100000 in
theorem owners_put {i : Nat} {b n : Int} {f : Lit → Option Value} (hi : Inj S) (hl : i < S.length) (hs : S.getD i none = none) (ho : owner S (b, n) = none) (hbn : I64 b ∧ I64 n) (hf : ∀ b p, I64 b → I64 p → f (pk b p) = (owner S (b, p)).map (fun i : Nat => Value.int .i64 (i : Int))) :
    ∀ b' p', I64 b' → I64 p' → (fun l : Lit => if l.sameKey (pk b n) = true then some (Value.int .i64 (i : Int)) else f l) (pk b' p') = (owner (S.set i (some (b, n))) (b', p')).map (fun i : Nat => Value.int .i64 (i : Int)) := by
  intro b' p' hb' hp'
  rw [owner_put hi hl (.inl ho)]
  dsimp only
  by_cases e : pk b' p' = pk b n
  · obtain ⟨rfl, rfl⟩ := pk_inj hb' hp' hbn.1 hbn.2 e
    rw [if_pos (WideAt.sameKey_self (isKey_pk _ _)), if_pos rfl]
    rfl
  · rw [if_neg (fun h => e (WideAt.sameKey_eq h)), if_neg ?_, if_neg ?_, hf b' p' hb' hp']
    · intro h
      have h2 : S[i]? = some none := by
        rw [List.getElem?_eq_getElem hl]
        simp only [List.getD, List.getElem?_eq_getElem hl, Option.getD_some] at hs
        rw [hs]
      rw [h2] at h
      simp at h
    · intro h
      simp only [Prod.mk.injEq] at h
      exact e (by rw [h.1, h.2])
set_option maxRecDepth 100000 in
theorem ok_put (ok : ∀ (i : Nat) b p, S[i]? = some (some (b, p)) → 0 ≤ b ∧ b < nb ∧ 0 ≤ p ∧ p < pg) (j b n : Nat) (hb : b < nb) (hn : (n : Int) < pg) : ∀ (i : Nat) b' p, (S.set j (some ((b : Int), (n : Int))))[i]? = some (some (b', p)) → 0 ≤ b' ∧ b' < nb ∧ 0 ≤ p ∧ p < pg := by
  intro i b' p h
  rw [List.getElem?_set] at h
  split at h
  · split at h
    · simp only [Option.some.injEq, Prod.mk.injEq] at h
      omega
    · cases h
  · exact ok i b' p h
set_option maxRecDepth 100000 in
set_option maxHeartbeats 1000000 in
theorem put_ok (h : WhereAt w p q o l pg nb S) (i b n : Nat) (hi : i < S.length) (hb : b < nb) (hn : (n : Int) < pg) (hj : owner S ((b : Int), (n : Int)) = none ∨ owner S ((b : Int), (n : Int)) = some i) :
    Calls Tryz.prog 31 #[.pointer (some ⟨p, 0, none⟩), .int .i64 (i : Int), .agg #[.int .i64 (b : Int), .int .i64 (n : Int)]] w fun e w' => e = .returned (.int .i64 0) ∧ WhereAt w' p q o l pg nb (S.set i (some ((b : Int), (n : Int)))) ∧ OnlyL [q, o, l] w w' := by
  have HBX := hide ((OnlyL.refl [q, o, l] w).alloc (.cells #[.int .i64 (b : Int), .int .i64 (n : Int)] 41))
  have HN := hide (heap_new w (.cells #[.int .i64 (b : Int), .int .i64 (n : Int)] 41))
  have HW := hide (h.below ((Below.refl _ _).alloc (Nat.le_refl _) (.cells #[.int .i64 (b : Int), .int .i64 (n : Int)] 41)))
  have HLT := hide h.lt
  have hpl := h.lt.1
  obtain ⟨c0, -⟩ := h.cells
  have hbig := h.big
  have HBIG := hide hbig
  have HI := hide (show I64 b ∧ I64 n from ⟨⟨by omega, by omega⟩, ⟨by omega, by omega⟩⟩)
  have HOK := hide h.ok
  have HINJ := hide h.inj
  have HJ := hide hj
  have hd : decide ((n : Int) < 0) = false := by simp
  have hd2 : decide (pg ≤ (n : Int)) = false := by simp; omega
  have hz : ownZ S b n = -1 ∨ ownZ S b n = (i : Int) := by
    unfold ownZ
    rcases hj with hj | hj
    · rw [hj]; exact .inl rfl
    · rw [hj]; exact .inr rfl
  have HZ := hide hz
  clear h hj hbig hz
  go_enter Tryz.func31, Tryz.ntmps31
  go_wp2
  go_quiet ((first | (go_at_call 32; exact quiet_eq (known_yes (HW.out.drewN _) i hi)) | (go_at_call 66; exact quiet_eq (block_yes (HW.out.drewN _) b hb))))
  go_wp2_with fail
  refine (owner_any (HW.out.drewN _) b n HI.out.1 HI.out.2).mono ?_
  rintro e w1 ⟨rfl, hb1⟩
  have HW1 := hide ((HW.out.drewN nq).below hb1)
  have HB1 := hide ((HBX.out.drewN nq).trans (.of_below hb1))
  have HN1 := hide ((hb1.block _ (heap_lt (HN.out))).trans HN.out)
  generalize w.heap.size = B at *
  clear hb1 c0 hpl HW HBX HN
  rcases HZ.out with hz | hz
  all_goals
    rw [hz]
    have t1 : ((i : Int) == -1) = false := by simp
    have t2 : ((i : Int) == (i : Int)) = true := by simp
    have t3 : ((i : Int) != (i : Int)) = false := by simp
    clear hz
    go_wp2_with fail
    refine (leave_any HW1.out i hi).mono ?_
    rintro e w2 ⟨rfl, h2, ho2⟩
    have HW2 := hide h2
    have HO2 := hide (HB1.out.trans ho2)
    have HN2 := hide ((ho2.block B (heap_lt HN1.out) (by have := HLT.out; simp; omega)).trans HN1.out)
    clear h2 ho2 t1 t2 t3
    go_wp2_with fail
    obtain ⟨f, hw, hf⟩ := HW2.out.parts
    have HF := hide hf
    have HP := hide hw
    have HL1 := hide (show i < (S.set i none).length by rw [List.length_set]; exact hi)
    have HG := hide (show (S.set i none).getD i none = none by simp [List.getD, hi])
    have HI2 := hide HW2.out.inj
    have HK2 := hide HW2.out.ok
    have HO := hide (owner_free HINJ.out HJ.out)
    have HBG2 := hide HW2.out.big
    have HLV := hide (Nat.le_trans (live_le (S.set i none) b) (Nat.le_trans (total_le _) HBG2.out.2.2))
    have HSS := hide (show (S.set i none).set i (some ((b : Int), (n : Int))) = S.set i (some ((b : Int), (n : Int))) from List.set_set ..)
    generalize S.set i none = S1 at *
    obtain ⟨-, c1, c2, c3⟩ := hw.cells
    obtain ⟨d0, f0⟩ := hw.spot i HL1.out 0 (by omega)
    obtain ⟨d1, f1⟩ := hw.spot i HL1.out 1 (by omega)
    obtain ⟨d2, f2⟩ := hw.spot i HL1.out 2 (by omega)
    rw [HG.out] at d0 d1 d2
    simp only [spotC, List.getElem?_cons_zero, List.getElem?_cons_succ, Nat.add_zero] at d0 d1 d2 f0
    have n0 : w2.cell? ⟨B, 0, none⟩ = some (.int .i64 (b : Int)) := by rw [cell_of_block HN2.out]; rfl
    have n1 : w2.cell? ⟨B, 1, none⟩ = some (.int .i64 (n : Int)) := by rw [cell_of_block HN2.out]; rfl
    have hL1 := HL1.out
    clear hf hw
    go_still_tail 8, (by kernel_rfl)
    change wpList _ _ _ _ _ w2.drew
    go_wp2_with fail
    clear c1 c2 c3 d0 d1 d2 f0 f1 f2 n0 n1
    have HP3 := hide ((HP.out.setSpot i HL1.out (some ((b : Int), (n : Int))) _ _ _ rfl).drew)
    have HO3 := hide (((HO2.out.trans (OnlyL.setCell (q := q) (by simp) (i * 3) (.int .i64 (b : Int)))).trans (OnlyL.setCell (q := q) (by simp) (i * 3 + 1) (.int .i64 (n : Int)))).trans (OnlyL.setCell (q := q) (by simp) (i * 3 + 2) (.bool true))).drew
    have hqB : q ≠ B := by have := HLT.out; omega
    have HN3 := hide (show ((((w2.setCell ⟨q, i * 3, none⟩ (.int .i64 (b : Int))).setCell ⟨q, i * 3 + 1, none⟩ (.int .i64 (n : Int))).setCell ⟨q, i * 3 + 2, none⟩ (.bool true)).drew).heap[B]? = some (.cells #[.int .i64 (b : Int), .int .i64 (n : Int)] 41)
      from (((block_setCell_other hqB _ _).trans (block_setCell_other hqB _ _)).trans (block_setCell_other hqB _ _)).trans HN2.out)
    clear hqB
    generalize (((w2.setCell ⟨q, i * 3, none⟩ (.int .i64 (b : Int))).setCell ⟨q, i * 3 + 1, none⟩ (.int .i64 (n : Int))).setCell ⟨q, i * 3 + 2, none⟩ (.bool true)).drew = w3 at *
    clear HP HO2 HN2 HW2
    obtain ⟨-, c1, c2, c3⟩ := HP3.out.cells
    have n0 : w3.cell? ⟨B, 0, none⟩ = some (.int .i64 (b : Int)) := by rw [cell_of_block HN3.out]; rfl
    have n1 : w3.cell? ⟨B, 1, none⟩ = some (.int .i64 (n : Int)) := by rw [cell_of_block HN3.out]; rfl
    go_still_tail 6, (by kernel_rfl)
    change wpList _ _ _ _ _ w3.drew
    refine wpList_mapStore _ rfl _ _ _ 89 rfl 41 3 KeyedP Tryz.underlying89 o _ _ f rfl HP3.out.drew.own (by have := HBG2.out.2.2; have := total_le S1; unfold maxLen; omega) _ (.int .i64 (i : Int)) (pk b n) rfl rfl (key_place HI.out.1 HI.out.2) (isKey_pk _ _) ?_
    intro w4 hm4 hg4
    have ho4 := only_of_grown hg4
    have HP4 := hide (HP3.out.drew.mapped ho4 hm4.tight)
    have HO4 := hide (HO3.out.drew.trans (.of_only ho4 (by simp)))
    have HN4 := hide ((ho4.block B (heap_lt HN3.out) (by have := HLT.out; omega)).trans HN3.out)
    clear hm4 hg4 ho4 c1 c2 c3 n0 n1 HO3 HN3
    go_wp2
    obtain ⟨-, c1, c2, c3⟩ := HP4.out.cells
    obtain ⟨e0, g0⟩ := HP4.out.lv b (by rw [liveZ_len]; exact hb)
    rw [liveZ_at _ _ _ hb] at e0
    have n0 : w4.cell? ⟨B, 0, none⟩ = some (.int .i64 (b : Int)) := by rw [cell_of_block HN4.out]; rfl
    have HX := hide (HP4.out.setLive b (((liveN S1 (b : Int) : Nat) : Int) + 1))
    have hl1 : (0 : Int) ≤ ((liveN S1 (b : Int) : Nat) : Int) := by omega
    have hl2 : ((liveN S1 (b : Int) : Nat) : Int) ≤ 4096 := by have := HLV.out; omega
    generalize hx : ((liveN S1 (b : Int) : Nat) : Int) = x at *
    have HXL := hide hx
    have HE := hide (show f (pk b n) = none by rw [HF.out b n HI.out.1 HI.out.2, HO.out]; rfl)
    clear hx c1 c2
    go_still_tail 10, (by kernel_rfl)
    change wpList _ _ _ _ _ w4.drew
    go_wp2_with fail
    go_ret
    refine ⟨rfl, ?_, (HO4.out.trans (OnlyL.setCell (q := l) (by simp) _ _)).drew⟩
    have hfin := (WParts.whole HX.out (liveZ_put (n := n) HG.out HL1.out hb (by rw [HXL.out])) (total_put (x := ((b : Int), (n : Int))) HG.out HL1.out HE.out) (owners_put HI2.out HL1.out HG.out HO.out HI.out HF.out) (HI2.out.put (.inl HO.out)) (ok_put HK2.out i b n hb hn) (by rw [List.length_set]; exact HBG2.out))
    rw [HSS.out] at hfin
    exact hfin.drew
end
end Go.Proofs.YtjfmkfhjbdiojaaGreat

namespace Go.Proofs.YtjfmkfhjbdiojaaGreat
set_option linter.unusedSimpArgs false
set_option linter.unusedVariables false
open Go.RowKit Go.WideShapes Go.ChangeShapes Go.ChangeAt Go.Deep W
theorem open_blk {S : ChipM} {N : Int} (h : Heal S N) (k : Nat) (hk : k < S.L.length) (sq : Int) (i : Nat) : (openS S k sq).blk i = if i = k then laidB (erasedS S k) k 0 (bs (zerosL S.size)) (bs (frameL 2 0 sq 0 1 (zerosL S.size))) else S.blk i := by
  have hd := erase_dims h k hk
  unfold openS
  rw [prog_blk (erase_heal h k hk) k (by rw [hd.1]; exact hk) 0 _ _ i]
  split
  · rfl
  · next e => rw [erase_blk h k hk, if_neg e]
theorem open_next {S : ChipM} {N : Int} (h : Heal S N) (k : Nat) (hk : k < S.L.length) (sq : Int) : ((openS S k sq).blk k).next = 1 ∧ ((openS S k sq).blk k).pages.length = (S.blk k).pages.length := by
  rw [open_blk h k hk, if_pos rfl]
  refine ⟨rfl, ?_⟩
  show ((((erasedS S k).blk k).pages).set 0 _).length = _
  rw [List.length_set, erase_blk h k hk, if_pos rfl]
  exact wipeP_length _ _ _
theorem kn_self (K : List KnM) (k : Nat) (hk : k < K.length) (x : KnM) : (K.set k x).getD k kn0 = x := by simp [List.getD, hk]
theorem kn_other (K : List KnM) (k m : Nat) (hm : m ≠ k) (x : KnM) : (K.set k x).getD m kn0 = K.getD m kn0 := by simp [List.getD, List.getElem?_set, Ne.symm hm]
theorem openK_len (K : List KnM) (k : Nat) : (openK K k).length = K.length := by unfold openK; simp
theorem openK_at (K : List KnM) (k : Nat) (hk : k < K.length) : (openK K k).getD k kn0 = ⟨false, 1⟩ := by unfold openK; simp [List.getD, hk]
theorem openK_other (K : List KnM) (k i : Nat) (hi : i ≠ k) : (openK K k).getD i kn0 = K.getD i kn0 := by unfold openK; simp [List.getD, List.getElem?_set, Ne.symm hi]
theorem pr_self (L : List (Int × Int)) (k : Nat) (hk : k < L.length) (x : Int × Int) : (L.set k x).getD k (0, 0) = x := by simp [List.getD, hk]
theorem pr_other (L : List (Int × Int)) (k m : Nat) (hm : m ≠ k) (x : Int × Int) : (L.set k x).getD m (0, 0) = L.getD m (0, 0) := by simp [List.getD, List.getElem?_set, Ne.symm hm]
structure TgM where
  k : Int
  l : Int
  s : Int
  n : Int
  m : Int
def TgM.ok (t : TgM) : Prop := TagOk t.k t.l t.n t.m ∧ 0 ≤ t.s ∧ t.s ≤ 18446744073709551615
def TgM.fr (t : TgM) (td : List UInt8) : ByteArray := bs (frameL t.k t.l t.s t.n t.m td)
structure MvS where
  S : ChipM
  K : List KnM
  L : List (Int × Int)
  op : Int
  lf : Int
  M : Spots
  D : Nat → TgM × List UInt8
/-- how many blocks are free -/
def freeN (L : List (Int × Int)) : Nat := L.countP (fun x => decide (x.1 = 1))
structure Lies (sz : Nat) (S : ChipM) (k j : Nat) (t : TgM) (td : List UInt8) : Prop where
  page : (S.blk k).pages.getD j pg0 = (bs td, t.fr td)
  ok : t.ok
  len : td.length = sz
structure HOk (nb pg sz : Nat) (N : Int) (X : MvS) : Prop where
  heal : Heal X.S N
  dims : X.S.L.length = nb ∧ X.S.pgs = pg ∧ X.S.size = sz
  klen : X.K.length = nb
  llen : X.L.length = nb
  plen : ∀ k, k < nb → (X.S.blk k).pages.length = pg
  bad : ∀ k, k < nb → (X.K.getD k kn0).bad = false
  wear : ∀ k, k < nb → 0 ≤ (X.L.getD k (0, 0)).2 ∧ (X.L.getD k (0, 0)).2 ≤ N
  st : ∀ k, k < nb → (X.L.getD k (0, 0)).1 = 1 ∨ (X.L.getD k (0, 0)).1 = 2
  room : 0 ≤ X.lf ∧ X.lf ≤ (pg : Int) - 1
  opn : (X.op = -1 ∧ X.lf = 0) ∨ ∃ k j : Nat, X.op = (k : Int) ∧ k < nb ∧ (j : Int) + X.lf = pg ∧ (X.L.getD k (0, 0)).1 = 2 ∧ (X.S.blk k).next = (j : Int) ∧ X.K.getD k kn0 = ⟨false, (j : Int)⟩
  has : ∀ l x, X.M.getD l none = some x → ∃ k j : Nat, x = ((k : Int), (j : Int)) ∧ k < nb ∧ j < pg ∧ (X.L.getD k (0, 0)).1 = 2 ∧ (j : Int) < (X.S.blk k).next ∧ Lies sz X.S k j (X.D l).1 (X.D l).2
theorem HOk.mono {nb pg sz : Nat} {N N' : Int} {X : MvS} (h : HOk nb pg sz N X) (hN : N ≤ N') : HOk nb pg sz N' X := { h with heal := h.heal.mono hN, wear := fun k hk => ⟨(h.wear k hk).1, by have := (h.wear k hk).2; omega⟩ }
theorem bestK_spec (L : List (Int × Int)) : ∀ n : Nat, n ≤ L.length → (bestK false L n < 0 → ∀ i, i < n → ¬ (L.getD i (0, 0)).1 = 1) ∧ (∀ k : Nat, bestK false L n = (k : Int) → (L.getD k (0, 0)).1 = 1 ∧ ∀ i, i < n → (L.getD i (0, 0)).1 = 1 → (L.getD k (0, 0)).2 ≤ (L.getD i (0, 0)).2)
  | 0, _ => ⟨fun _ i hi => absurd hi (by omega), fun k hk => by simp [bestK] at hk⟩
  | n + 1, hn => by
    obtain ⟨h1, h2⟩ := bestK_spec L n (by omega)
    have hb := bestK_bd false L n
    unfold bestK
    split
    · next hc =>
      refine ⟨fun hh => absurd hh (by omega), fun k hk => ?_⟩
      obtain rfl : k = n := by omega
      refine ⟨hc.1, fun i hi hf => ?_⟩
      rcases Nat.lt_or_ge i k with e | e
      · rcases hc.2 with h | h
        · exact absurd hf (h1 h i e)
        · obtain ⟨b, hbb⟩ : ∃ b : Nat, bestK false L k = (b : Int) := ⟨(bestK false L k).toNat, by
            rcases Int.lt_or_le (bestK false L k) 0 with hh | hh
            · exact absurd hf (h1 hh i e)
            · omega⟩
          rw [hbb, Int.toNat_natCast] at h
          have h3 := (h2 b hbb).2 i e hf
          simp [aheadB] at h
          simp only [List.getD] at h3 ⊢
          omega
      · obtain rfl : i = k := by omega
        omega
    · next hc =>
      refine ⟨fun hh i hi => ?_, fun k hk => ?_⟩
      · rcases Nat.lt_or_ge i n with e | e
        · exact h1 hh i e
        · obtain rfl : i = n := by omega
          exact fun h => hc ⟨h, .inl hh⟩
      · obtain ⟨h3, h4⟩ := h2 k hk
        refine ⟨h3, fun i hi hf => ?_⟩
        rcases Nat.lt_or_ge i n with e | e
        · exact h4 i e hf
        · obtain rfl : i = n := by omega
          rw [hk, Int.toNat_natCast] at hc
          have : ¬ (aheadB false (L.getD i (0, 0)).2 (L.getD k (0, 0)).2 = true) := fun hh => hc ⟨hf, .inr hh⟩
          simp [aheadB] at this
          simp only [List.getD] at this ⊢
          omega
theorem freeN_pos {L : List (Int × Int)} (h : 1 ≤ freeN L) : ∃ i, i < L.length ∧ (L.getD i (0, 0)).1 = 1 := by
  obtain ⟨x, hx, hp⟩ := List.countP_pos_iff.mp h
  obtain ⟨i, hi, rfl⟩ := List.mem_iff_getElem.mp hx
  exact ⟨i, hi, by simpa [List.getD, hi] using hp⟩
/-- which block Take takes, and what is left -/
theorem take_spec {L : List (Int × Int)} (h : 1 ≤ freeN L) : ∃ k : Nat, k < L.length ∧ takeZ false L = ((k : Int), 0) ∧ (L.getD k (0, 0)).1 = 1 ∧ takeL false L = L.set k (2, (L.getD k (0, 0)).2) ∧ ∀ i, i < L.length → (L.getD i (0, 0)).1 = 1 → (L.getD k (0, 0)).2 ≤ (L.getD i (0, 0)).2 := by
  obtain ⟨h1, h2⟩ := bestK_spec L L.length (Nat.le_refl _)
  have hb := bestK_bd false L L.length
  obtain ⟨i, hi, hf⟩ := freeN_pos h
  have hp : ¬ bestK false L L.length < 0 := fun hh => h1 hh i hi hf
  obtain ⟨k, hk⟩ : ∃ k : Nat, bestK false L L.length = (k : Int) := ⟨(bestK false L L.length).toNat, by omega⟩
  have h3 := h2 k hk
  refine ⟨k, by omega, ?_, h3.1, ?_, h3.2⟩
  · unfold takeZ; rw [if_neg hp, hk]
  · unfold takeL; rw [if_neg hp, hk, Int.toNat_natCast]
theorem countP_set' {p : Int × Int → Bool} : ∀ (L : List (Int × Int)) (k : Nat) (v : Int × Int), k < L.length → (L.set k v).countP p + (if p (L.getD k (0, 0)) then 1 else 0) = L.countP p + (if p v then 1 else 0)
  | [], k, v, h => absurd h (by simp)
  | a :: L, 0, v, h => by simp only [List.set_cons_zero, List.countP_cons, List.getD_cons_zero]; omega
  | a :: L, k + 1, v, h => by
    have := countP_set' (p := p) L k v (by simpa using h)
    simp only [List.set_cons_succ, List.countP_cons, List.getD_cons_succ]
    omega
theorem freeN_set (L : List (Int × Int)) (k : Nat) (v : Int × Int) (hk : k < L.length) : freeN (L.set k v) + (if (L.getD k (0, 0)).1 = 1 then 1 else 0) = freeN L + (if v.1 = 1 then 1 else 0) := by
  have := countP_set' (p := fun x => decide (x.1 = 1)) L k v hk
  simpa [freeN] using this
/-- a page more, where there is room -/
def leftX (X : MvS) (k j : Nat) (t : TgM) (td : List UInt8) : MvS := { X with S := progS X.S k j (bs td) (t.fr td), K := X.K.set k ⟨false, (j : Int) + 1⟩, lf := X.lf - 1 }
/-- a block is opened -/
def openX (X : MvS) (k : Nat) : MvS := { X with S := openS X.S k ((X.L.getD k (0, 0)).2 + 1), K := openK X.K k, L := X.L.set k (2, (X.L.getD k (0, 0)).2 + 1), op := (k : Int), lf := (X.S.pgs : Int) - 1 }
def closeX (X : MvS) : MvS := { X with op := -1, lf := 0 }
/-- a block is free -/
def freeX (X : MvS) (k : Nat) : MvS := { X with L := X.L.set k (1, (X.L.getD k (0, 0)).2) }
/-- a logical page is at a place -/
def mapX (X : MvS) (l k j : Nat) (t : TgM) (td : List UInt8) : MvS := { X with M := X.M.set l (some ((k : Int), (j : Int))), D := fun i => if i = l then (t, td) else X.D i }
section
variable {nb pg sz : Nat} {N : Int} {X : MvS}
theorem hok_left (h : HOk nb pg sz N X) (t : TgM) (ht : t.ok) (td : List UInt8) (hd : td.length = sz) (k j : Nat) (hop : X.op = (k : Int)) (hk : k < nb) (hj : (j : Int) + X.lf = pg) (hl : 1 ≤ X.lf) (h2 : (X.L.getD k (0, 0)).1 = 2) (hn : (X.S.blk k).next = (j : Int)) :
    HOk nb pg sz (N + 1) (leftX X k j t td) ∧ Lies sz (leftX X k j t td).S k j t td ∧ ((leftX X k j t td).S.blk k).next = (j : Int) + 1 := by
  have hk' : k < X.S.L.length := by rw [h.dims.1]; exact hk
  have hD := prog_dims h.heal k hk' j (bs td) (t.fr td)
  have hb := prog_blk h.heal k hk' j (bs td) (t.fr td)
  have hpl := h.plen k hk
  have hL : Lies sz (progS X.S k j (bs td) (t.fr td)) k j t td := ⟨by
    rw [hb, if_pos rfl]
    show ((X.S.blk k).pages.set j _).getD j pg0 = _
    have : j < (X.S.blk k).pages.length := by omega
    simp [List.getD, this], ht, hd⟩
  have hx : ((progS X.S k j (bs td) (t.fr td)).blk k).next = (j : Int) + 1 := by rw [hb, if_pos rfl]; rfl
  refine ⟨⟨prog_heal h.heal k hk' j _ _, ⟨hD.1.trans h.dims.1, hD.2.1.trans h.dims.2.1, hD.2.2.trans h.dims.2.2⟩, by show (X.K.set k _).length = nb; rw [List.length_set]; exact h.klen, h.llen, ?_, ?_, ?_, h.st, ?_, ?_, ?_⟩, hL, hx⟩
  · intro m hm
    show ((progS X.S k j (bs td) (t.fr td)).blk m).pages.length = pg
    rw [hb]
    split
    · show ((X.S.blk k).pages.set j _).length = pg
      rw [List.length_set]; exact hpl
    · exact h.plen m hm
  · intro m hm
    show ((X.K.set k _).getD m kn0).bad = false
    by_cases e : m = k
    · subst e; rw [kn_self _ m (by rw [h.klen]; exact hm)]
    · rw [kn_other _ k m e]; exact h.bad m hm
  · intro m hm
    have := h.wear m hm
    exact ⟨this.1, by show (X.L.getD m (0, 0)).2 ≤ N + 1; omega⟩
  · have := h.room
    exact ⟨by show 0 ≤ X.lf - 1; omega, by show X.lf - 1 ≤ _; omega⟩
  · exact .inr ⟨k, j + 1, hop, hk, by show ((j + 1 : Nat) : Int) + (X.lf - 1) = pg; omega, h2, by show ((progS X.S k j (bs td) (t.fr td)).blk k).next = _; rw [hx]; omega, by show (X.K.set k _).getD k kn0 = _; rw [kn_self _ k (by rw [h.klen]; exact hk), show ((j + 1 : Nat) : Int) = (j : Int) + 1 by omega]⟩
  · intro l x hl'
    obtain ⟨k', j', rfl, a1, a2, a3, a4, a5⟩ := h.has l x hl'
    refine ⟨k', j', rfl, a1, a2, a3, ?_, ⟨?_, a5.ok, a5.len⟩⟩
    · show (j' : Int) < ((progS X.S k j (bs td) (t.fr td)).blk k').next
      by_cases e : k' = k
      · subst e; rw [hx]; omega
      · rw [hb, if_neg e]; exact a4
    · show ((progS X.S k j (bs td) (t.fr td)).blk k').pages.getD j' pg0 = _
      by_cases e : k' = k
      · subst e
        rw [hb, if_pos rfl]
        show ((X.S.blk k').pages.set j _).getD j' pg0 = (bs (X.D l).2, (X.D l).1.fr (X.D l).2)
        rw [← a5.page]
        have hne : j ≠ j' := by omega
        simp [List.getD, List.getElem?_set, hne]
      · rw [hb, if_neg e]; exact a5.page
theorem hok_open (h : HOk nb pg sz N X) (hpg : 2 ≤ pg) (k : Nat) (hk : k < nb) (hf : (X.L.getD k (0, 0)).1 = 1) :
    HOk nb pg sz (N + 2) (openX X k) ∧ ((openX X k).S.blk k).next = 1 ∧ (openX X k).K.getD k kn0 = ⟨false, 1⟩ ∧ ((openX X k).L.getD k (0, 0)).1 = 2 := by
  have hk' : k < X.S.L.length := by rw [h.dims.1]; exact hk
  have hD := open_dims h.heal k hk' ((X.L.getD k (0, 0)).2 + 1)
  have hb := open_blk h.heal k hk' ((X.L.getD k (0, 0)).2 + 1)
  have hn := open_next h.heal k hk' ((X.L.getD k (0, 0)).2 + 1)
  have hw := h.wear k hk
  have hkk : (openK X.K k).getD k kn0 = ⟨false, 1⟩ := openK_at _ k (by rw [h.klen]; exact hk)
  have hll : ((X.L.set k (2, (X.L.getD k (0, 0)).2 + 1)).getD k (0, 0)) = (2, (X.L.getD k (0, 0)).2 + 1) := pr_self _ k (by rw [h.llen]; exact hk) _
  refine ⟨⟨open_heal h.heal k hk' _, ⟨hD.1.trans h.dims.1, hD.2.1.trans h.dims.2.1, hD.2.2.trans h.dims.2.2⟩, by show (openK X.K k).length = nb; rw [openK_len]; exact h.klen, by show (X.L.set k _).length = nb; rw [List.length_set]; exact h.llen, ?_, ?_, ?_, ?_, ?_, ?_, ?_⟩, hn.1, hkk, by show ((X.L.set k _).getD k (0, 0)).1 = 2; rw [hll]⟩
  · intro m hm
    show ((openS X.S k _).blk m).pages.length = pg
    by_cases e : m = k
    · subst e; rw [hn.2]; exact h.plen m hm
    · rw [hb, if_neg e]; exact h.plen m hm
  · intro m hm
    show ((openK X.K k).getD m kn0).bad = false
    by_cases e : m = k
    · subst e; rw [hkk]
    · rw [openK_other _ k m e]; exact h.bad m hm
  · intro m hm
    show 0 ≤ ((X.L.set k _).getD m (0, 0)).2 ∧ ((X.L.set k _).getD m (0, 0)).2 ≤ N + 2
    by_cases e : m = k
    · subst e; rw [hll]; dsimp only; omega
    · rw [pr_other _ k m e]; have := h.wear m hm; omega
  · intro m hm
    show ((X.L.set k _).getD m (0, 0)).1 = 1 ∨ ((X.L.set k _).getD m (0, 0)).1 = 2
    by_cases e : m = k
    · subst e; rw [hll]; exact .inr rfl
    · rw [pr_other _ k m e]; exact h.st m hm
  · exact ⟨by show 0 ≤ (X.S.pgs : Int) - 1; rw [h.dims.2.1]; omega, by show (X.S.pgs : Int) - 1 ≤ _; rw [h.dims.2.1]; omega⟩
  · exact .inr ⟨k, 1, rfl, hk, by show ((1 : Nat) : Int) + ((X.S.pgs : Int) - 1) = pg; rw [h.dims.2.1]; omega, by show ((X.L.set k _).getD k (0, 0)).1 = 2; rw [hll], hn.1, hkk⟩
  · intro l x hl'
    obtain ⟨k', j', rfl, a1, a2, a3, a4, a5⟩ := h.has l x hl'
    have e : k' ≠ k := fun e => by subst e; omega
    refine ⟨k', j', rfl, a1, a2, ?_, ?_, ⟨?_, a5.ok, a5.len⟩⟩
    · show ((X.L.set k _).getD k' (0, 0)).1 = 2
      rw [pr_other _ k k' e]; exact a3
    · show (j' : Int) < ((openS X.S k _).blk k').next
      rw [hb, if_neg e]; exact a4
    · show ((openS X.S k _).blk k').pages.getD j' pg0 = _
      rw [hb, if_neg e]; exact a5.page
theorem hok_close (h : HOk nb pg sz N X) (hpg : 2 ≤ pg) : HOk nb pg sz N (closeX X) := { h with room := ⟨by show (0 : Int) ≤ 0; omega, by show (0 : Int) ≤ _; omega⟩, opn := .inl ⟨rfl, rfl⟩ }
theorem hok_free (h : HOk nb pg sz N X) (k : Nat) (hk : k < nb) (hop : X.op ≠ (k : Int)) (hM : ∀ l x, X.M.getD l none = some x → x.1 ≠ (k : Int)) : HOk nb pg sz N (freeX X k) := by
  have hll : ((X.L.set k (1, (X.L.getD k (0, 0)).2)).getD k (0, 0)) = (1, (X.L.getD k (0, 0)).2) := pr_self _ k (by rw [h.llen]; exact hk) _
  refine { h with llen := by show (X.L.set k _).length = nb; rw [List.length_set]; exact h.llen, wear := ?_, st := ?_, opn := ?_, has := ?_ }
  · intro m hm
    show 0 ≤ ((X.L.set k _).getD m (0, 0)).2 ∧ ((X.L.set k _).getD m (0, 0)).2 ≤ N
    by_cases e : m = k
    · subst e; rw [hll]; exact h.wear m hm
    · rw [pr_other _ k m e]; exact h.wear m hm
  · intro m hm
    show ((X.L.set k _).getD m (0, 0)).1 = 1 ∨ ((X.L.set k _).getD m (0, 0)).1 = 2
    by_cases e : m = k
    · subst e; rw [hll]; exact .inl rfl
    · rw [pr_other _ k m e]; exact h.st m hm
  · rcases h.opn with hh | ⟨k', j, o1, o2, o3, o4, o5, o6⟩
    · exact .inl hh
    · have e : k' ≠ k := fun e => hop (by rw [o1, e])
      exact .inr ⟨k', j, o1, o2, o3, by show ((X.L.set k _).getD k' (0, 0)).1 = 2; rw [pr_other _ k k' e]; exact o4, o5, o6⟩
  · intro l x hl'
    obtain ⟨k', j', rfl, a1, a2, a3, a4, a5⟩ := h.has l x hl'
    have e : k' ≠ k := fun e => hM l _ hl' (by rw [e])
    exact ⟨k', j', rfl, a1, a2, by show ((X.L.set k _).getD k' (0, 0)).1 = 2; rw [pr_other _ k k' e]; exact a3, a4, a5⟩
theorem hok_map (h : HOk nb pg sz N X) (l k j : Nat) (t : TgM) (td : List UInt8) (hl : l < X.M.length) (hk : k < nb) (hj : j < pg) (h2 : (X.L.getD k (0, 0)).1 = 2) (hn : (j : Int) < (X.S.blk k).next) (hL : Lies sz X.S k j t td) : HOk nb pg sz N (mapX X l k j t td) := by
  refine { h with has := ?_ }
  intro i x hi
  have hi' : (X.M.set l (some ((k : Int), (j : Int)))).getD i none = some x := hi
  show ∃ k' j' : Nat, x = ((k' : Int), (j' : Int)) ∧ k' < nb ∧ j' < pg ∧ (X.L.getD k' (0, 0)).1 = 2 ∧ (j' : Int) < (X.S.blk k').next ∧ Lies sz X.S k' j' (if i = l then (t, td) else X.D i).1 (if i = l then (t, td) else X.D i).2
  by_cases e : i = l
  · subst e
    rw [show (X.M.set i (some ((k : Int), (j : Int)))).getD i none = some ((k : Int), (j : Int)) from by simp [List.getD, hl]] at hi'
    obtain rfl := Option.some.inj hi'
    rw [if_pos rfl]
    exact ⟨k, j, rfl, hk, hj, h2, hn, hL⟩
  · rw [show (X.M.set l (some ((k : Int), (j : Int)))).getD i none = X.M.getD i none from by simp [List.getD, List.getElem?_set, Ne.symm e]] at hi'
    rw [if_neg e]
    exact h.has i x hi'
end
end Go.Proofs.YtjfmkfhjbdiojaaGreat

namespace Go.Proofs.YtjfmkfhjbdiojaaGreat
set_option linter.unusedSimpArgs false
set_option linter.unusedVariables false
open Go.RowKit Go.WideShapes Go.ChangeShapes Go.ChangeAt Go.Deep
theorem below_row {a w : World} {r : Nat} (h : Below a.heap.size a w) (hr : a.heap.size ≤ r) (cs : Array Value) : Below a.heap.size a (w.setRow r cs) := setRow_below h hr h.size cs
theorem put_none (tk tl ts tn tm : Int) (t : ByteArray) (w : World) : Calls Tryz.prog 30 #[.pointer none, .agg #[.int .u8 tk, .int .i64 tl, .int .u64 ts, .int .i64 tn, .int .i64 tm], .string t] w fun e w' => e = .returned (.tuple #[.agg #[.int .i64 0, .int .i64 0], .int .i64 1]) ∧ Below w.heap.size w w' := by
  obtain ⟨o1, ho1⟩ : ∃ ob, ob = (Obj.cells #[.int .u8 tk, .int .i64 tl, .int .u64 ts, .int .i64 tn, .int .i64 tm] 47) := ⟨_, rfl⟩
  obtain ⟨o2, ho2⟩ : ∃ ob, ob = (Obj.cells #[.int .i64 0, .int .i64 0] 41) := ⟨_, rfl⟩
  have hal := ((Below.refl w.heap.size w).alloc (Nat.le_refl _) o1).alloc (by simp) o2
  have T1 := hide (show ((w.alloc o1).alloc o2).heap[w.heap.size]? = some (.cells #[.int .u8 tk, .int .i64 tl, .int .u64 ts, .int .i64 tn, .int .i64 tm] 47 (0, 0)) by rw [heap_old _ _ _ (by simp), heap_new, ho1])
  have R1 := hide (show ((w.alloc o1).alloc o2).heap[w.heap.size + 1]? = some (.cells #[.int .i64 0, .int .i64 0] 41 (0, 0)) by rw [show w.heap.size + 1 = (w.alloc o1).heap.size by simp, heap_new, ho2])
  have B1 := hide hal
  clear hal
  go_enter Tryz.func30, Tryz.ntmps30
  go_upto_region 1 with (fail)
  rw [← ho1, ← ho2]
  generalize (w.alloc o1).alloc o2 = w1 at *
  obtain ⟨tb, htb⟩ : ∃ k, w.heap.size = k := ⟨_, rfl⟩
  obtain ⟨rb, hrb⟩ : ∃ k, tb + 1 = k := ⟨_, rfl⟩
  have HRB := hide (show w.heap.size ≤ rb from by omega)
  rw [htb] at T1 R1 ⊢
  rw [hrb] at R1 ⊢
  clear htb hrb ho1 ho2 o1 o2
  go_wp2_with (refine rw_store rfl 41 (.tmp 6) (.tmp 14) rfl rb rfl #[.int .i64 0, .int .i64 0] rfl _ R1.out (by kernel_rfl) rfl (by simp [Value.oneCell']) ?_)
  have RF := hide (setRow_same (cs := (#[.int .i64 0, .int .i64 0] : Array Value)) R1.out)
  (try simp only [Exit.inBlock, Exit.then])
  refine bodyPost_ret (res_ctB (P := Tryz.prog) rfl _ _ rb 41 (#[.int .i64 0, .int .i64 0] : Array Value) (0, 0) _ rfl RF.out Tryz.underlying41 rfl (by kernel_rfl)) rfl ?_
  exact ⟨rfl, below_row B1.out HRB.out _⟩
theorem bnew_none1 (pp : Nat) (w : World) : Calls Tryz.prog 22 #[.pointer none, .pointer (some ⟨pp, 0, none⟩)] w fun e w' => e = .returned (.tuple #[.pointer none, .int .i64 1]) ∧ w = w' := by
  go_enter Tryz.func22, Tryz.ntmps22
  go_wp2_with fail
  go_ret2
  exact ⟨rfl, rfl⟩
theorem bnew_none2 (d : Nat) (w : World) : Calls Tryz.prog 22 #[.pointer (some ⟨d, 0, none⟩), .pointer none] w fun e w' => e = .returned (.tuple #[.pointer none, .int .i64 1]) ∧ w = w' := by
  go_enter Tryz.func22, Tryz.ntmps22
  go_wp2_with fail
  go_ret2
  exact ⟨rfl, rfl⟩
theorem open_none (w : World) : Calls Tryz.prog 57 #[.pointer none] w fun e w' => e = .returned (.int .i64 (-1)) ∧ w = w' := by
  go_enter Tryz.func57, Tryz.ntmps57
  go_wp2_with fail
  go_ret
  exact ⟨rfl, rfl⟩
theorem cnt_all (n k : Nat) (hk : k ≤ n) : cntK (List.replicate n ((1 : Int), (0 : Int))) 1 k = k ∧ cntK (List.replicate n ((1 : Int), (0 : Int))) 2 k = 0 ∧ cntK (List.replicate n ((1 : Int), (0 : Int))) 3 k = 0 := by
  induction k with
  | zero => exact ⟨rfl, rfl, rfl⟩
  | succ k ih =>
    obtain ⟨h1, h2, h3⟩ := ih (by omega)
    have e : (List.replicate n ((1 : Int), (0 : Int))).getD k (0, 0) = (1, 0) := by simp [List.getD, show k < n by omega]
    unfold cntK
    rw [h1, h2, h3, e]
    exact ⟨by simp, by simp, by simp⟩
def BNewIs (n m d pp : Nat) (w : World) (e : Ending) (w' : World) : Prop := ((n = m ∧ e = .returned (.tuple #[.pointer (some ⟨w'.heap.size - 1, 0, none⟩), .int .i64 0]) ∧ w.heap.size ≤ w'.heap.size - 1 ∧ w'.heap[w'.heap.size - 1]? = some (.cells #[.pointer (some ⟨d, 0, none⟩), .pointer (some ⟨pp, 0, none⟩), .int .i64 (-1), .int .i64 0, .slice none 0 0] 129 (0, 0))) ∨ (¬ n = m ∧ e = .returned (.tuple #[.pointer none, .int .i64 2]))) ∧ Below w.heap.size w w'
section
variable {B0 sb d b p q B pp pq : Nat} {G : Nat → Nat} {S S1 : ChipM} {K K1 : List KnM} {L L1 : List (Int × Int)} {op lf lf1 : Int} {N : Int}
theorem open_any (w : World) (h : StAt w B0 sb d b p q B G S K pp pq L op lf) : Calls Tryz.prog 57 #[.pointer (some ⟨sb, 0, none⟩)] w fun e w' => e = .returned (.int .i64 op) ∧ w = w' := by
  have c2 := cell_of_block h.head 2
  clear h
  go_enter Tryz.func57, Tryz.ntmps57
  go_wp2_with fail
  go_ret
  exact ⟨rfl, rfl⟩
set_option maxRecDepth 100000 in
set_option maxHeartbeats 2000000 in
theorem put_tag (tk tl ts tn tm : Int) (hT : ¬ TagOk tk tl tn tm) (t : ByteArray) (w : World) : Calls Tryz.prog 30 #[.pointer (some ⟨sb, 0, none⟩), .agg #[.int .u8 tk, .int .i64 tl, .int .u64 ts, .int .i64 tn, .int .i64 tm], .string t] w fun e w' => e = .returned (.tuple #[.agg #[.int .i64 0, .int .i64 0], .int .i64 2]) ∧ Below w.heap.size w w' := by
  have HRT := hide (fun W => tright_no tk tl ts tn tm hT W)
  clear hT
  obtain ⟨o1, ho1⟩ : ∃ ob, ob = (Obj.cells #[.int .u8 tk, .int .i64 tl, .int .u64 ts, .int .i64 tn, .int .i64 tm] 47) := ⟨_, rfl⟩
  obtain ⟨o2, ho2⟩ : ∃ ob, ob = (Obj.cells #[.int .i64 0, .int .i64 0] 41) := ⟨_, rfl⟩
  have hal := ((Below.refl w.heap.size w).alloc (Nat.le_refl _) o1).alloc (by simp) o2
  have T1 := hide (show ((w.alloc o1).alloc o2).heap[w.heap.size]? = some (.cells #[.int .u8 tk, .int .i64 tl, .int .u64 ts, .int .i64 tn, .int .i64 tm] 47 (0, 0)) by rw [heap_old _ _ _ (by simp), heap_new, ho1])
  have R1 := hide (show ((w.alloc o1).alloc o2).heap[w.heap.size + 1]? = some (.cells #[.int .i64 0, .int .i64 0] 41 (0, 0)) by rw [show w.heap.size + 1 = (w.alloc o1).heap.size by simp, heap_new, ho2])
  have B1 := hide hal
  clear hal
  go_enter Tryz.func30, Tryz.ntmps30
  go_upto_region 1 with (fail)
  rw [← ho1, ← ho2]
  generalize (w.alloc o1).alloc o2 = w1 at *
  obtain ⟨tb, htb⟩ : ∃ k, w.heap.size = k := ⟨_, rfl⟩
  obtain ⟨rb, hrb⟩ : ∃ k, tb + 1 = k := ⟨_, rfl⟩
  have HRB := hide (show w.heap.size ≤ rb from by omega)
  rw [htb] at T1 R1 ⊢
  rw [hrb] at R1 ⊢
  clear htb hrb ho1 ho2 o1 o2
  go_wp2_with (refine rw_load rfl 47 (.tmp 4) rfl tb rfl 47 #[.int .u8 tk, .int .i64 tl, .int .u64 ts, .int .i64 tn, .int .i64 tm] (0, 0) _ T1.out Tryz.underlying47 rfl (by kernel_rfl) ?_)
  refine (HRT.out _).mono ?_
  rintro e w2 ⟨rfl, hb⟩
  have R2 := hide ((hb.block _ (heap_lt R1.out)).trans R1.out)
  have B2 := hide (B1.out.trans (hb.mono B1.out.size))
  clear hb T1 R1 B1 HRT
  go_upto_region 4 with (fail)
  go_wp2_with (refine rw_store rfl 41 (.tmp 6) (.tmp 30) rfl rb rfl #[.int .i64 0, .int .i64 0] rfl _ R2.out (by kernel_rfl) rfl (by simp [Value.oneCell']) ?_)
  have RF := hide (setRow_same (cs := (#[.int .i64 0, .int .i64 0] : Array Value)) R2.out)
  (try simp only [Exit.inBlock, Exit.then])
  refine bodyPost_ret (res_ctB (P := Tryz.prog) rfl _ _ rb 41 (#[.int .i64 0, .int .i64 0] : Array Value) (0, 0) _ rfl RF.out Tryz.underlying41 rfl (by kernel_rfl)) rfl ?_
  exact ⟨rfl, below_row B2.out HRB.out _⟩
set_option maxRecDepth 100000 in
set_option maxHeartbeats 2000000 in
theorem put_size (tk tl ts tn tm : Int) (hT : TagOk tk tl tn tm) (t : ByteArray) (hne : ¬ (t.size : Int) = (S.size : Int)) (w : World) (h : StAt w B0 sb d b p q B G S K pp pq L op lf) : Calls Tryz.prog 30 #[.pointer (some ⟨sb, 0, none⟩), .agg #[.int .u8 tk, .int .i64 tl, .int .u64 ts, .int .i64 tn, .int .i64 tm], .string t] w fun e w' => e = .returned (.tuple #[.agg #[.int .i64 0, .int .i64 0], .int .i64 2]) ∧ Below w.heap.size w w' := by
  have HRT := hide (fun W => tright_yes tk tl ts tn tm hT W)
  have HCH := hide (fun W (hW : DriveAt W d b p q B G S K) => chip_any hW)
  have HSH := hide (fun W (hW : NandAt W p q B G S) => shape_any p q B G S W hW)
  have hfl := fld2
  have H := hide h
  obtain ⟨z, hz⟩ : ∃ z : Int, (S.size : Int) = z := ⟨_, rfl⟩
  obtain ⟨y, hy⟩ : ∃ y : Int, (t.size : Int) = y := ⟨_, rfl⟩
  have HY := hide hy
  rw [hz] at HSH hne
  rw [hy] at hne
  have hyz : (y != z) = true := bne_iff_ne.mpr hne
  clear hT h hz hy hne
  obtain ⟨o1, ho1⟩ : ∃ ob, ob = (Obj.cells #[.int .u8 tk, .int .i64 tl, .int .u64 ts, .int .i64 tn, .int .i64 tm] 47) := ⟨_, rfl⟩
  obtain ⟨o2, ho2⟩ : ∃ ob, ob = (Obj.cells #[.int .i64 0, .int .i64 0] 41) := ⟨_, rfl⟩
  have hal := ((Below.refl w.heap.size w).alloc (Nat.le_refl _) o1).alloc (by simp) o2
  have T1 := hide (show ((w.alloc o1).alloc o2).heap[w.heap.size]? = some (.cells #[.int .u8 tk, .int .i64 tl, .int .u64 ts, .int .i64 tn, .int .i64 tm] 47 (0, 0)) by rw [heap_old _ _ _ (by simp), heap_new, ho1])
  have R1 := hide (show ((w.alloc o1).alloc o2).heap[w.heap.size + 1]? = some (.cells #[.int .i64 0, .int .i64 0] 41 (0, 0)) by rw [show w.heap.size + 1 = (w.alloc o1).heap.size by simp, heap_new, ho2])
  have B1 := hide hal
  have X1 := hide (H.out.below hal)
  clear hal
  go_enter Tryz.func30, Tryz.ntmps30
  go_upto_region 1 with (fail)
  rw [← ho1, ← ho2]
  generalize (w.alloc o1).alloc o2 = w1 at *
  obtain ⟨tb, htb⟩ : ∃ k, w.heap.size = k := ⟨_, rfl⟩
  obtain ⟨rb, hrb⟩ : ∃ k, tb + 1 = k := ⟨_, rfl⟩
  have HRB := hide (show w.heap.size ≤ rb from by omega)
  rw [htb] at T1 R1 ⊢
  rw [hrb] at R1 ⊢
  clear htb hrb ho1 ho2 o1 o2
  go_wp2_with (refine rw_load rfl 47 (.tmp 4) rfl tb rfl 47 #[.int .u8 tk, .int .i64 tl, .int .u64 ts, .int .i64 tn, .int .i64 tm] (0, 0) _ T1.out Tryz.underlying47 rfl (by kernel_rfl) ?_)
  refine (HRT.out _).mono ?_
  rintro e w2 ⟨rfl, hb⟩
  have R2 := hide ((hb.block _ (heap_lt R1.out)).trans R1.out)
  have X2 := hide (X1.out.below hb)
  have B2 := hide (B1.out.trans (hb.mono B1.out.size))
  clear hb T1 R1 B1 HRT X1 H
  have c0 := cell_of_block X2.out.head 0
  go_wp2_with fail
  refine (HCH.out _ X2.out.drive).mono ?_
  rintro e w3 ⟨rfl, rfl⟩
  go_wp2_with fail
  refine (HSH.out _ X2.out.drive.chip).mono ?_
  rintro e w4 ⟨rfl, hb⟩
  have R4 := hide ((hb.block _ (heap_lt R2.out)).trans R2.out)
  have B4 := hide (B2.out.trans (hb.mono B2.out.size))
  clear hb R2 B2 X2 c0 HCH HSH
  (try rw [HY.out])
  go_upto_region 4 with (fail)
  go_wp2_with (refine rw_store rfl 41 (.tmp 6) (.tmp 30) rfl rb rfl #[.int .i64 0, .int .i64 0] rfl _ R4.out (by kernel_rfl) rfl (by simp [Value.oneCell']) ?_)
  have RF := hide (setRow_same (cs := (#[.int .i64 0, .int .i64 0] : Array Value)) R4.out)
  (try simp only [Exit.inBlock, Exit.then])
  refine bodyPost_ret (res_ctB (P := Tryz.prog) rfl _ _ rb 41 (#[.int .i64 0, .int .i64 0] : Array Value) (0, 0) _ rfl RF.out Tryz.underlying41 rfl (by kernel_rfl)) rfl ?_
  exact ⟨rfl, below_row B4.out HRB.out _⟩
set_option maxRecDepth 100000 in
set_option maxHeartbeats 4000000 in
theorem put_full (hbg : ∀ W, StAt W B0 sb d b p q B G S K pp pq L op lf → Calls Tryz.prog 62 #[.pointer (some ⟨sb, 0, none⟩)] W fun e w' => e = .returned (.int .i64 13) ∧ StAt w' B0 sb d b p q B G S K pp pq L (-1) 0 ∧ TurnB B0 W w') (hlf : lf = 0)
    (tk tl ts tn tm : Int) (hT : TagOk tk tl tn tm) (t : ByteArray) (ht : (t.size : Int) = (S.size : Int)) (w : World) (h : StAt w B0 sb d b p q B G S K pp pq L op lf) :
    Calls Tryz.prog 30 #[.pointer (some ⟨sb, 0, none⟩), .agg #[.int .u8 tk, .int .i64 tl, .int .u64 ts, .int .i64 tn, .int .i64 tm], .string t] w fun e w' => e = .returned (.tuple #[.agg #[.int .i64 0, .int .i64 0], .int .i64 13]) ∧ StAt w' B0 sb d b p q B G S K pp pq L (-1) 0 ∧ TurnB B0 w w' := by
  have HRT := hide (fun W => tright_yes tk tl ts tn tm hT W)
  have HCH := hide (fun W (hW : DriveAt W d b p q B G S K) => chip_any hW)
  have HSH := hide (fun W (hW : NandAt W p q B G S) => shape_any p q B G S W hW)
  have hfl := fld2
  have H := hide h
  have HSZ := hide h.size
  have HBG := hide hbg
  obtain ⟨z, hz⟩ : ∃ z : Int, (S.size : Int) = z := ⟨_, rfl⟩
  rw [hz] at HSH ht
  subst hlf
  clear hT h hz hbg
  obtain ⟨o1, ho1⟩ : ∃ ob, ob = (Obj.cells #[.int .u8 tk, .int .i64 tl, .int .u64 ts, .int .i64 tn, .int .i64 tm] 47) := ⟨_, rfl⟩
  obtain ⟨o2, ho2⟩ : ∃ ob, ob = (Obj.cells #[.int .i64 0, .int .i64 0] 41) := ⟨_, rfl⟩
  have hal := ((Below.refl w.heap.size w).alloc (Nat.le_refl _) o1).alloc (by simp) o2
  have T1 := hide (show ((w.alloc o1).alloc o2).heap[w.heap.size]? = some (.cells #[.int .u8 tk, .int .i64 tl, .int .u64 ts, .int .i64 tn, .int .i64 tm] 47 (0, 0)) by rw [heap_old _ _ _ (by simp), heap_new, ho1])
  have R1 := hide (show ((w.alloc o1).alloc o2).heap[w.heap.size + 1]? = some (.cells #[.int .i64 0, .int .i64 0] 41 (0, 0)) by rw [show w.heap.size + 1 = (w.alloc o1).heap.size by simp, heap_new, ho2])
  have B1 := hide (TurnB.of_below hal H.out.size)
  have X1 := hide (H.out.below hal)
  clear hal
  go_enter Tryz.func30, Tryz.ntmps30
  go_upto_region 1 with (fail)
  rw [← ho1, ← ho2]
  generalize (w.alloc o1).alloc o2 = w1 at *
  obtain ⟨tb, htb⟩ : ∃ k, w.heap.size = k := ⟨_, rfl⟩
  obtain ⟨rb, hrb⟩ : ∃ k, tb + 1 = k := ⟨_, rfl⟩
  have HRB := hide (show w.heap.size ≤ rb from by omega)
  rw [htb] at T1 R1 ⊢
  rw [hrb] at R1 ⊢
  clear htb hrb ho1 ho2 o1 o2
  go_wp2_with (refine rw_load rfl 47 (.tmp 4) rfl tb rfl 47 #[.int .u8 tk, .int .i64 tl, .int .u64 ts, .int .i64 tn, .int .i64 tm] (0, 0) _ T1.out Tryz.underlying47 rfl (by kernel_rfl) ?_)
  refine (HRT.out _).mono ?_
  rintro e w2 ⟨rfl, hb⟩
  have R2 := hide ((hb.block _ (heap_lt R1.out)).trans R1.out)
  have B2 := hide (B1.out.trans (TurnB.of_below hb X1.out.size))
  have X2 := hide (X1.out.below hb)
  clear hb T1 R1 B1 HRT X1 H
  have c0 := cell_of_block X2.out.head 0
  go_wp2_with fail
  refine (HCH.out _ X2.out.drive).mono ?_
  rintro e w3 ⟨rfl, rfl⟩
  go_wp2_with fail
  refine (HSH.out _ X2.out.drive.chip).mono ?_
  rintro e w4 ⟨rfl, hb⟩
  have R4 := hide ((hb.block _ (heap_lt R2.out)).trans R2.out)
  have B4 := hide (B2.out.trans (TurnB.of_below hb X2.out.size))
  have X4 := hide (X2.out.below hb)
  clear hb R2 B2 X2 c0 HCH HSH
  go_wp2_with fail
  clear ht
  go_loopw [] (fun W => W = w4) (fun _ => 0)
  case atStart => exact rfl
  case round =>
  obtain rfl := hrel
  have c3 := cell_of_block X4.out.head 3
  go_wp2_with fail
  refine (HBG.out _ X4.out).mono ?_
  rintro e w5 ⟨rfl, hs, hb⟩
  have X5 := hide hs
  have R5 := hide (hb.keep R4.out (by decide))
  have B5 := hide (B4.out.trans hb)
  clear hs hb c3
  go_wp2_with (refine rw_store rfl 41 (.tmp 6) (.tmp 40) rfl rb rfl #[.int .i64 0, .int .i64 0] rfl _ R5.out (by kernel_rfl) rfl (by simp [Value.oneCell']) ?_)
  have RF := hide (setRow_same (cs := (#[.int .i64 0, .int .i64 0] : Array Value)) R5.out)
  (try simp only [Exit.inBlock, Exit.then])
  refine bodyPost_ret (res_ctB (P := Tryz.prog) rfl _ _ rb 41 (#[.int .i64 0, .int .i64 0] : Array Value) (0, 0) _ rfl RF.out Tryz.underlying41 rfl (by kernel_rfl)) rfl ?_
  have KF := hide (setRow_keeps (Ts := [41]) R5.out (by decide) (#[.int .i64 0, .int .i64 0] : Array Value))
  exact ⟨rfl, X5.out.keepsT KF.out (by decide) (by decide) (by decide) (by decide) (by decide) (by decide) (by decide) (by decide), B5.out.new HRB.out HSZ.out _⟩
set_option maxRecDepth 100000 in
set_option maxHeartbeats 2000000 in
theorem bnew_any (n : Nat) (hn : n ≤ 256) (w : World) (hd : DriveAt w d b p q B G S K) (hp : PoolAt w pp pq (List.replicate n (1, 0))) :
    Calls Tryz.prog 22 #[.pointer (some ⟨d, 0, none⟩), .pointer (some ⟨pp, 0, none⟩)] w (BNewIs n S.L.length d pp w) := by
  have HCN := hide (fun s W (hW : PoolAt W pp pq (List.replicate n (1, 0))) => pcount_any pp pq _ (by rw [List.length_replicate]; omega) s W hW)
  rw [List.length_replicate] at HCN
  obtain ⟨hc1, hc2, hc3⟩ := cnt_all n n (Nat.le_refl _)
  have HC1 := hide (HCN.out 1)
  have HC2 := hide (HCN.out 2)
  have HC3 := hide (HCN.out 3)
  rw [hc1] at HC1
  rw [hc2] at HC2
  rw [hc3] at HC3
  have HCH := hide (fun W (hW : DriveAt W d b p q B G S K) => chip_any hW)
  have HSH := hide (fun W (hW : NandAt W p q B G S) => shape_any p q B G S W hW)
  have hfl := fld0
  have hfew := hd.chip.few.1
  obtain ⟨m, hm⟩ : ∃ m, S.L.length = m := ⟨_, rfl⟩
  rw [hm] at HSH hfew ⊢
  have D0 := hide hd
  have P0 := hide hp
  clear hd hp hc1 hc2 hc3 HCN hm
  go_enter Tryz.func22, Tryz.ntmps22
  go_wp2_with fail
  refine (HC1.out _ P0.out).mono ?_
  rintro e w1 ⟨rfl, hb⟩
  have D1 := hide (D0.out.below hb)
  have P1 := hide (P0.out.below hb)
  have B1 := hide hb
  clear hb D0 P0 HC1
  go_wp2_with fail
  refine (HC2.out _ P1.out).mono ?_
  rintro e w2 ⟨rfl, hb⟩
  have D2 := hide (D1.out.below hb)
  have P2 := hide (P1.out.below hb)
  have B2 := hide (B1.out.trans (hb.mono B1.out.size))
  clear hb D1 P1 B1 HC2
  go_wp2_with fail
  refine (HC3.out _ P2.out).mono ?_
  rintro e w3 ⟨rfl, hb⟩
  have D3 := hide (D2.out.below hb)
  have B3 := hide (B2.out.trans (hb.mono B2.out.size))
  clear hb D2 P2 B2 HC3
  go_wp2_with fail
  refine (HCH.out _ D3.out).mono ?_
  rintro e w4 ⟨rfl, rfl⟩
  go_wp2_with fail
  refine (HSH.out _ D3.out.chip).mono ?_
  rintro e w5 ⟨rfl, hb⟩
  have B5 := hide (B3.out.trans (hb.mono B3.out.size))
  clear hb D3 B3 HCH HSH
  have hw1 : IntKind.i64.wrap (n : Int) = (n : Int) := by rw [IntKind.wrap_i64]; omega
  by_cases hnm : n = m
  · subst hnm
    go_wp2_with fail
    go_ret2
    have hs : (w5.alloc (.cells #[.pointer (some ⟨d, 0, none⟩), .pointer (some ⟨pp, 0, none⟩), .int .i64 (-1), .int .i64 0, .slice none 0 0] 129)).heap.size = w5.heap.size + 1 := by simp
    refine ⟨.inl ⟨rfl, ?_, ?_, ?_⟩, B5.out.trans (((Below.refl w5.heap.size w5).alloc (Nat.le_refl _) _).mono B5.out.size)⟩
    · rw [hs]; rfl
    · rw [hs]; exact B5.out.size
    · rw [hs]; exact heap_new w5 _
  · have hnI : ¬ (n : Int) = (m : Int) := by omega
    have hnb : ((n : Int) != (m : Int)) = true := bne_iff_ne.mpr hnI
    go_wp2_with fail
    go_ret2
    exact ⟨.inr ⟨hnm, rfl⟩, B5.out⟩
end
end Go.Proofs.YtjfmkfhjbdiojaaGreat

namespace Go.Proofs.YtjfmkfhjbdiojaaGreat
set_option linter.unusedSimpArgs false
set_option linter.unusedVariables false
open Go.RowKit Go.Maps W

set_option maxRecDepth 100000 in
theorem eq_place (a b c d : Int) (w : World) : (Op.equalIn 10000 41 (.agg #[.int .i64 a, .int .i64 b]) (.agg #[.int .i64 c, .int .i64 d])).run Tryz.prog w = .ok (a == c && (b == d && true)) w := by
  rw [run_equalIn_agg w 9999 41 _ _ (by kernel_rfl) (by kernel_rfl)]
  have hF : fdesc (Tryz.prog.fieldsOf 41).toList = [("Block", 3, 0), ("Page", 3, 1)] := by kernel_rfl
  exact eqF_cons w _ _ _ hF (by decide) (by kernel_rfl) (by kernel_rfl) (run_equalIn_int w 9998 3 .i64 .i64 _ _ Tryz.underlying3) fun l h =>
    eqF_cons w _ _ _ h (by decide) (by kernel_rfl) (by kernel_rfl) (run_equalIn_int w 9998 3 .i64 .i64 _ _ Tryz.underlying3) fun l h => eqF_nil w _ _ _ h
set_option maxRecDepth 100000 in
theorem eql_place (a b c d : Int) (w : World) : (binOp .eql 41 (.agg #[.int .i64 a, .int .i64 b]) (.agg #[.int .i64 c, .int .i64 d])).run Tryz.prog w = .ok (.bool (a == c && b == d)) w := by
  rw [run_eql_struct, eq_place]
  simp
set_option maxRecDepth 100000 in
theorem neq_place (a b c d : Int) (w : World) : (binOp .neq 41 (.agg #[.int .i64 a, .int .i64 b]) (.agg #[.int .i64 c, .int .i64 d])).run Tryz.prog w = .ok (.bool (!(a == c && b == d))) w := by
  rw [run_neq_struct, eq_place]
  simp
set_option maxRecDepth 100000 in
theorem guard_place (op : BinOp) (x y : Operand) (a b : Array Value) (w : World) : (eqGuard op 41 x y (.agg a) (.agg b)).run Tryz.prog w = .ok () w := run_eqGuard_agg w op 41 x y a b (by kernel_rfl)

set_option maxRecDepth 100000 in
theorem within_yes (n most : Int) (h : 1 ≤ n) (h2 : n ≤ most) (w : World) : Calls Tryz.prog 48 #[.int .i64 n, .int .i64 most] w fun e w' => e = .returned (.bool true) ∧ w = w' := by
  go_enter Tryz.func48, Tryz.ntmps48
  go_wp2
  go_ret
  exact ⟨rfl, rfl⟩
set_option maxRecDepth 100000 in
theorem within_no (n most : Int) (h : n < 1 ∨ most < n) (w : World) : Calls Tryz.prog 48 #[.int .i64 n, .int .i64 most] w fun e w' => e = .returned (.bool false) ∧ w = w' := by
  rcases h with h | h
  · have h1 : ¬ 1 ≤ n := by omega
    go_enter Tryz.func48, Tryz.ntmps48
    go_wp2
    go_ret
    exact ⟨rfl, rfl⟩
  · by_cases h1 : 1 ≤ n
    · have h2 : ¬ n ≤ most := by omega
      go_enter Tryz.func48, Tryz.ntmps48
      go_wp2
      go_ret
      exact ⟨rfl, rfl⟩
    · go_enter Tryz.func48, Tryz.ntmps48
      go_wp2
      go_ret
      exact ⟨rfl, rfl⟩
set_option maxRecDepth 100000 in
theorem newW_no (a b c : Int) (h : a < 1 ∨ 256 < a ∨ b < 1 ∨ 64 < b ∨ c < 1 ∨ 4096 < c) (w : World) :
    Calls Tryz.prog 23 #[.int .i64 a, .int .i64 b, .int .i64 c] w fun e w' => e = .returned (.tuple #[.pointer none, .int .i64 2]) ∧ w = w' := by
  by_cases ha : a < 1 ∨ 256 < a
  · clear h
    have HA := hide ha
    clear ha
    go_enter Tryz.func23, Tryz.ntmps23
    go_wp2_with fail
    refine (within_no a 256 HA.out _).mono ?_
    rintro e w1 ⟨rfl, rfl⟩
    go_wp2
    go_ret2
    exact ⟨rfl, rfl⟩
  · have HA := hide (show 1 ≤ a ∧ a ≤ 256 by omega)
    by_cases hb : b < 1 ∨ 64 < b
    · have HB := hide hb
      clear h ha hb
      go_enter Tryz.func23, Tryz.ntmps23
      go_wp2_with fail
      refine (within_yes a 256 HA.out.1 HA.out.2 _).mono ?_
      rintro e w1 ⟨rfl, rfl⟩
      go_wp2_with fail
      refine (within_no b 64 HB.out _).mono ?_
      rintro e w1 ⟨rfl, rfl⟩
      go_wp2
      go_ret2
      exact ⟨rfl, rfl⟩
    · have HB := hide (show 1 ≤ b ∧ b ≤ 64 by omega)
      have HC := hide (show c < 1 ∨ 4096 < c by omega)
      clear h ha hb
      go_enter Tryz.func23, Tryz.ntmps23
      go_wp2_with fail
      refine (within_yes a 256 HA.out.1 HA.out.2 _).mono ?_
      rintro e w1 ⟨rfl, rfl⟩
      go_wp2_with fail
      refine (within_yes b 64 HB.out.1 HB.out.2 _).mono ?_
      rintro e w1 ⟨rfl, rfl⟩
      go_wp2_with fail
      refine (within_no c 4096 HC.out _).mono ?_
      rintro e w1 ⟨rfl, rfl⟩
      go_wp2
      go_ret2
      exact ⟨rfl, rfl⟩
/-- New made a map -/
def NewW (nb pg lg : Nat) (w : World) (e : Ending) (w' : World) : Prop := ∃ p q o l : Nat, e = .returned (.tuple #[.pointer (some ⟨p, 0, none⟩), .int .i64 0]) ∧ WhereAt w' p q o l pg nb (List.replicate lg none) ∧ Below w.heap.size w w' ∧ w.heap.size ≤ p ∧ w.heap.size ≤ q ∧ w.heap.size ≤ o ∧ w.heap.size ≤ l
set_option maxRecDepth 100000 in
theorem make_spots (n : Nat) (h : n ≤ 4096) (W : World) : (Instr.makeSlice 88 (.int .i64 (n : Int)) (.int .i64 (n : Int))).run Tryz.prog W = .ok (.slice (some ⟨W.heap.size, 0, none⟩) n n) (W.alloc (.cells ((List.replicate n (none : Option (Int × Int))).flatMap spotC).toArray 87)) := by
  have := run_make_rows (P := Tryz.prog) (k := 3) (B := 24) 88 87 (z := .agg #[.int .i64 0, .int .i64 0, .bool false]) (spotC none) Tryz.underlying88 (by kernel_rfl) rfl rfl (by omega) n (by omega) (by omega) W
  rw [this]
  congr 4
  simp [List.flatMap_replicate]
set_option maxRecDepth 100000 in
theorem make_live (n : Nat) (h : n ≤ 256) (W : World) : (Instr.makeSlice 59 (.int .i64 (n : Int)) (.int .i64 (n : Int))).run Tryz.prog W = .ok (.slice (some ⟨W.heap.size, 0, none⟩) n n) (W.alloc (.cells (List.replicate n (Value.int .i64 0)).toArray 3)) :=
  run_make_nums 59 3 (B := 8) Tryz.underlying59 (by kernel_rfl) n n rfl (by omega) (by omega) W
set_option maxRecDepth 100000 in
theorem MapIs.of_empty {w : World} {P : Program} {k : TypeId} {b : Nat} (h : w.heap[b]? = some (.map #[] 0)) : MapIs w P k b 0 0 (fun _ => none) := by
  obtain ⟨D, ⟨es, clock, h1, h2⟩, h3⟩ := MapIs.made w P k
  rw [heap_new] at h1
  simp only [Option.some.injEq, Obj.map.injEq] at h1
  obtain ⟨rfl, rfl⟩ := h1
  exact ⟨D, ⟨#[], 0, h, h2⟩, h3⟩
set_option maxRecDepth 100000 in
theorem heap4 (w : World) (A B C D : Obj) : ((((w.alloc A).alloc B).alloc C).alloc D).drew.heap[w.heap.size]? = some A ∧ ((((w.alloc A).alloc B).alloc C).alloc D).drew.heap[w.heap.size + 1]? = some B ∧ ((((w.alloc A).alloc B).alloc C).alloc D).drew.heap[w.heap.size + 1 + 1]? = some C ∧ ((((w.alloc A).alloc B).alloc C).alloc D).drew.heap[w.heap.size + 1 + 1 + 1]? = some D := by
  have s1 : (w.alloc A).heap.size = w.heap.size + 1 := by simp
  have s2 : ((w.alloc A).alloc B).heap.size = w.heap.size + 1 + 1 := by simp
  have s3 : (((w.alloc A).alloc B).alloc C).heap.size = w.heap.size + 1 + 1 + 1 := by simp
  refine ⟨?_, ?_, ?_, ?_⟩
  · show ((((w.alloc A).alloc B).alloc C).alloc D).heap[w.heap.size]? = some A
    rw [heap_old _ _ _ (by omega), heap_old _ _ _ (by omega), heap_old _ _ _ (by omega), heap_new]
  · show ((((w.alloc A).alloc B).alloc C).alloc D).heap[w.heap.size + 1]? = some B
    rw [heap_old _ _ _ (by omega), heap_old _ _ _ (by omega), ← s1, heap_new]
  · show ((((w.alloc A).alloc B).alloc C).alloc D).heap[w.heap.size + 1 + 1]? = some C
    rw [heap_old _ _ _ (by omega), ← s2, heap_new]
  · show ((((w.alloc A).alloc B).alloc C).alloc D).heap[w.heap.size + 1 + 1 + 1]? = some D
    rw [← s3, heap_new]
set_option maxRecDepth 100000 in
theorem owner_new (lg : Nat) (x : Int × Int) : owner (List.replicate lg none) x = none := owner_isnt (fun i h => by
  rw [List.getElem?_replicate] at h
  split at h <;> simp at h)
set_option maxRecDepth 100000 in
theorem live_new (lg : Nat) (b : Int) : liveN (List.replicate lg none) b = 0 := by simp [liveN, List.countP_replicate]
set_option maxRecDepth 100000 in
theorem total_new (lg : Nat) : total (List.replicate lg none) = 0 := by simp [total, List.countP_replicate]
set_option maxRecDepth 100000 in
theorem newW_mk {w W : World} {p q o l nb pg lg : Nat} (hp : W.heap[p]? = some (.cells #[.int .i64 (pg : Int), .slice (some ⟨q, 0, none⟩) lg lg, .map (some o), .slice (some ⟨l, 0, none⟩) nb nb] 91))
    (hq : W.heap[q]? = some (.cells ((List.replicate lg (none : Option (Int × Int))).flatMap spotC).toArray 87)) (ho : W.heap[o]? = some (.map #[] 0)) (hl : W.heap[l]? = some (.cells (Array.replicate nb (Value.int .i64 0)) 3))
    (hn : [p, q, o, l].Nodup) (hb : Below w.heap.size w W) (h2 : nb ≤ 256 ∧ pg ≤ 64 ∧ lg ≤ 4096) (h3 : w.heap.size ≤ p ∧ w.heap.size ≤ q ∧ w.heap.size ≤ o ∧ w.heap.size ≤ l) : NewW nb pg lg w (.returned (.tuple #[.pointer (some ⟨p, 0, none⟩), .int .i64 0])) W := by
  refine ⟨p, q, o, l, rfl, ⟨by rw [List.length_replicate]; exact hp, hq, ?_, ⟨fun _ => none, by rw [total_new]; exact MapIs.of_empty ho, fun b p _ _ => by rw [owner_new]; rfl⟩, ?_, ?_, by rw [List.length_replicate]; omega, hn⟩, hb, h3⟩
  · rw [hl]
    congr 2
    apply Array.toList_inj.1
    apply List.ext_getElem (by simp [liveL])
    intro i h1 h2
    simp [liveL, live_new]
  · intro i j x h
    rw [List.getElem?_replicate] at h
    split at h <;> simp at h
  · intro i b p h
    rw [List.getElem?_replicate] at h
    split at h <;> simp at h
set_option maxRecDepth 100000 in
set_option maxHeartbeats 1000000 in
theorem newW_yes (nb pg lg : Nat) (h1 : 1 ≤ nb) (h2 : nb ≤ 256) (h3 : 1 ≤ pg) (h4 : pg ≤ 64) (h5 : 1 ≤ lg) (h6 : lg ≤ 4096) (w : World) :
    Calls Tryz.prog 23 #[.int .i64 (nb : Int), .int .i64 (pg : Int), .int .i64 (lg : Int)] w (NewW nb pg lg w) := by
  have hmm := @run_makeMap Tryz.prog
  have hms := make_spots lg h6
  have hml := make_live nb h2
  go_enter Tryz.func23, Tryz.ntmps23
  go_wp2_with fail
  refine (within_yes nb 256 (by omega) (by omega) _).mono ?_
  rintro e w1 ⟨rfl, rfl⟩
  go_wp2_with fail
  refine (within_yes pg 64 (by omega) (by omega) _).mono ?_
  rintro e w1 ⟨rfl, rfl⟩
  go_wp2_with fail
  refine (within_yes lg 4096 (by omega) (by omega) _).mono ?_
  rintro e w1 ⟨rfl, rfl⟩
  go_wp2
  go_region
  all_goals
    go_wp2
    go_ret2
    first | exact newW_mk (heap4 _ _ _ _ _).2.2.2 (heap4 _ _ _ _ _).1 (heap4 _ _ _ _ _).2.1 (heap4 _ _ _ _ _).2.2.1 (by simp <;> omega) (((((Below.refl w.heap.size w).alloc (Nat.le_refl _) _).alloc (by simp) _).alloc (by simp; omega) _).alloc (by simp; omega) _).drew ⟨h2, h4, h6⟩ ⟨by omega, by omega, by omega, by omega⟩ | exact newW_mk (heap4 _ _ _ _ _).2.2.2 (heap4 _ _ _ _ _).1 (heap4 _ _ _ _ _).2.2.1 (heap4 _ _ _ _ _).2.1 (by simp <;> omega) (((((Below.refl w.heap.size w).alloc (Nat.le_refl _) _).alloc (by simp) _).alloc (by simp; omega) _).alloc (by simp; omega) _).drew ⟨h2, h4, h6⟩ ⟨by omega, by omega, by omega, by omega⟩ | exact newW_mk (heap4 _ _ _ _ _).2.2.2 (heap4 _ _ _ _ _).2.1 (heap4 _ _ _ _ _).1 (heap4 _ _ _ _ _).2.2.1 (by simp <;> omega) (((((Below.refl w.heap.size w).alloc (Nat.le_refl _) _).alloc (by simp) _).alloc (by simp; omega) _).alloc (by simp; omega) _).drew ⟨h2, h4, h6⟩ ⟨by omega, by omega, by omega, by omega⟩ | exact newW_mk (heap4 _ _ _ _ _).2.2.2 (heap4 _ _ _ _ _).2.1 (heap4 _ _ _ _ _).2.2.1 (heap4 _ _ _ _ _).1 (by simp <;> omega) (((((Below.refl w.heap.size w).alloc (Nat.le_refl _) _).alloc (by simp) _).alloc (by simp; omega) _).alloc (by simp; omega) _).drew ⟨h2, h4, h6⟩ ⟨by omega, by omega, by omega, by omega⟩ | exact newW_mk (heap4 _ _ _ _ _).2.2.2 (heap4 _ _ _ _ _).2.2.1 (heap4 _ _ _ _ _).1 (heap4 _ _ _ _ _).2.1 (by simp <;> omega) (((((Below.refl w.heap.size w).alloc (Nat.le_refl _) _).alloc (by simp) _).alloc (by simp; omega) _).alloc (by simp; omega) _).drew ⟨h2, h4, h6⟩ ⟨by omega, by omega, by omega, by omega⟩ | exact newW_mk (heap4 _ _ _ _ _).2.2.2 (heap4 _ _ _ _ _).2.2.1 (heap4 _ _ _ _ _).2.1 (heap4 _ _ _ _ _).1 (by simp <;> omega) (((((Below.refl w.heap.size w).alloc (Nat.le_refl _) _).alloc (by simp) _).alloc (by simp; omega) _).alloc (by simp; omega) _).drew ⟨h2, h4, h6⟩ ⟨by omega, by omega, by omega, by omega⟩
end Go.Proofs.YtjfmkfhjbdiojaaGreat

namespace Go.Proofs.YtjfmkfhjbdiojaaGreat
set_option linter.unusedSimpArgs false
set_option linter.unusedVariables false
open Go.RowKit Go.WideShapes Go.ChangeShapes Go.ChangeAt Go.Deep
def mrightB (x0 x1 x2 x3 : Option Addr) : Bool := x0.isSome && (x1.isSome && (x2.isSome && x3.isSome))
set_option maxRecDepth 100000 in
set_option maxHeartbeats 4000000 in
theorem mright_any (x0 x1 x2 x3 : Option Addr) (w : World) : Calls Tryz.prog 24 #[.agg #[.pointer x0, .pointer x1, .pointer x2, .pointer x3]] w fun e w' => e = .returned (.bool (mrightB x0 x1 x2 x3)) ∧ Below w.heap.size w w' := by
  have HX := hide (heap_new w (.cells #[.pointer x0, .pointer x1, .pointer x2, .pointer x3] 29))
  have HB := hide ((Below.refl w.heap.size w).alloc (Nat.le_refl _) (.cells #[.pointer x0, .pointer x1, .pointer x2, .pointer x3] 29))
  have HR := hide (show ∀ b : Bool, b = mrightB x0 x1 x2 x3 → Value.bool b = Value.bool (mrightB x0 x1 x2 x3) from fun b h => by rw [h])
  have a0 := cell_of_block HX.out 0
  have a1 := cell_of_block HX.out 1
  have a2 := cell_of_block HX.out 2
  have a3 := cell_of_block HX.out 3
  rcases x0 with _ | y0
  · go_enter Tryz.func24, Tryz.ntmps24
    go_wp2_with fail
    go_ret
    exact ⟨rfl, HB.out⟩
  · rcases x1 with _ | y1
    · go_enter Tryz.func24, Tryz.ntmps24
      go_wp2_with fail
      go_ret
      exact ⟨rfl, HB.out⟩
    · rcases x2 with _ | y2
      · go_enter Tryz.func24, Tryz.ntmps24
        go_wp2_with fail
        go_ret
        exact ⟨rfl, HB.out⟩
      · rcases x3 with _ | y3
        · go_enter Tryz.func24, Tryz.ntmps24
          go_wp2_with fail
          go_ret
          exact ⟨rfl, HB.out⟩
        · go_enter Tryz.func24, Tryz.ntmps24
          go_wp2_with fail
          go_ret
          exact ⟨rfl, HB.out⟩
section
variable {d b p q B : Nat} {G : Nat → Nat} {S : ChipM} {K : List KnM}
set_option maxRecDepth 100000 in
set_option maxHeartbeats 4000000 in
theorem ask_none (x0 x1 x2 x3 : Option Addr) (h : mrightB x0 x1 x2 x3 = false) (n : Int) (w : World) : Calls Tryz.prog 87 #[.agg #[.pointer x0, .pointer x1, .pointer x2, .pointer x3], .int .i64 n] w fun e w' => e = .returned (.int .i64 1) ∧ Below w.heap.size w w' := by
  have HR := hide (fun W => mright_any x0 x1 x2 x3 W)
  rw [h] at HR
  have HX := hide (heap_new w (.cells #[.pointer x0, .pointer x1, .pointer x2, .pointer x3] 29))
  have HB := hide ((Below.refl w.heap.size w).alloc (Nat.le_refl _) (.cells #[.pointer x0, .pointer x1, .pointer x2, .pointer x3] 29))
  go_enter Tryz.func87, Tryz.ntmps87
  go_wp2_with (refine rw_load rfl 29 (.tmp 2) rfl w.heap.size rfl 29 (#[.pointer x0, .pointer x1, .pointer x2, .pointer x3] : Array Value) (0, 0) _ HX.out Tryz.underlying29 rfl (by kernel_rfl) ?_)
  refine (HR.out _).mono ?_
  rintro e w1 ⟨rfl, hb⟩
  have H1 := hide ((hb.block _ (heap_lt HX.out)).trans HX.out)
  have B1 := hide (HB.out.trans (hb.mono HB.out.size))
  clear hb HR
  go_wp2_with fail
  go_ret
  exact ⟨rfl, B1.out⟩
set_option maxRecDepth 100000 in
set_option maxHeartbeats 4000000 in
theorem ask_bad (a1 a2 a3 : Addr) (n : Int) (hn : n < 0 ∨ (S.L.length : Int) ≤ n) (w : World) (h : DriveAt w d b p q B G S K) : Calls Tryz.prog 87 #[.agg #[.pointer (some ⟨d, 0, none⟩), .pointer (some a1), .pointer (some a2), .pointer (some a3)], .int .i64 n] w fun e w' => e = .returned (.int .i64 3) ∧ Below w.heap.size w w' := by
  have HR := hide (fun W => mright_any (some ⟨d, 0, none⟩) (some a1) (some a2) (some a3) W)
  rw [show mrightB (some ⟨d, 0, none⟩) (some a1) (some a2) (some a3) = true from rfl] at HR
  have HCH := hide (fun W (hW : DriveAt W d b p q B G S K) => chip_any hW)
  have HSH := hide (fun W (hW : NandAt W p q B G S) => shape_any p q B G S W hW)
  have hfl := fld0
  obtain ⟨m, hm⟩ : ∃ m : Int, (S.L.length : Int) = m := ⟨_, rfl⟩
  rw [hm] at HSH hn
  have HD := hide h
  have HN := hide hn
  clear h hm hn
  have HX := hide (heap_new w (.cells #[.pointer (some ⟨d, 0, none⟩), .pointer (some a1), .pointer (some a2), .pointer (some a3)] 29))
  have HB := hide ((Below.refl w.heap.size w).alloc (Nat.le_refl _) (.cells #[.pointer (some ⟨d, 0, none⟩), .pointer (some a1), .pointer (some a2), .pointer (some a3)] 29))
  go_enter Tryz.func87, Tryz.ntmps87
  go_wp2_with (refine rw_load rfl 29 (.tmp 2) rfl w.heap.size rfl 29 (#[.pointer (some ⟨d, 0, none⟩), .pointer (some a1), .pointer (some a2), .pointer (some a3)] : Array Value) (0, 0) _ HX.out Tryz.underlying29 rfl (by kernel_rfl) ?_)
  refine (HR.out _).mono ?_
  rintro e w1 ⟨rfl, hb⟩
  have H1 := hide ((hb.block _ (heap_lt HX.out)).trans HX.out)
  have B1 := hide (HB.out.trans (hb.mono HB.out.size))
  have D1 := hide ((HD.out.below ((Below.refl w.heap.size w).alloc (Nat.le_refl _) _)).below hb)
  clear hb HR
  rcases (show n < 0 ∨ 0 ≤ n by omega) with hlt | hge
  · go_wp2_with fail
    go_ret
    exact ⟨rfl, B1.out⟩
  · have hge2 : m ≤ n := by have := HN.out; omega
    have c0 := cell_of_block H1.out 0
    go_wp2_with fail
    refine (HCH.out _ D1.out).mono ?_
    rintro e w2 ⟨rfl, rfl⟩
    go_wp2_with fail
    refine (HSH.out _ D1.out.chip).mono ?_
    rintro e w2 ⟨rfl, hb⟩
    have B2 := hide (B1.out.trans (hb.mono B1.out.size))
    clear hb c0
    go_wp2_with fail
    go_ret
    exact ⟨rfl, B2.out⟩
set_option maxRecDepth 100000 in
set_option maxHeartbeats 4000000 in
theorem ask_ok (a1 a2 a3 : Addr) (n : Int) (hn : 0 ≤ n) (hn2 : n < (S.L.length : Int)) (w : World) (h : DriveAt w d b p q B G S K) : Calls Tryz.prog 87 #[.agg #[.pointer (some ⟨d, 0, none⟩), .pointer (some a1), .pointer (some a2), .pointer (some a3)], .int .i64 n] w fun e w' => e = .returned (.int .i64 0) ∧ Below w.heap.size w w' := by
  have HR := hide (fun W => mright_any (some ⟨d, 0, none⟩) (some a1) (some a2) (some a3) W)
  rw [show mrightB (some ⟨d, 0, none⟩) (some a1) (some a2) (some a3) = true from rfl] at HR
  have HCH := hide (fun W (hW : DriveAt W d b p q B G S K) => chip_any hW)
  have HSH := hide (fun W (hW : NandAt W p q B G S) => shape_any p q B G S W hW)
  have hfl := fld0
  obtain ⟨m, hm⟩ : ∃ m : Int, (S.L.length : Int) = m := ⟨_, rfl⟩
  rw [hm] at HSH hn2
  have HD := hide h
  clear h hm
  have HX := hide (heap_new w (.cells #[.pointer (some ⟨d, 0, none⟩), .pointer (some a1), .pointer (some a2), .pointer (some a3)] 29))
  have HB := hide ((Below.refl w.heap.size w).alloc (Nat.le_refl _) (.cells #[.pointer (some ⟨d, 0, none⟩), .pointer (some a1), .pointer (some a2), .pointer (some a3)] 29))
  go_enter Tryz.func87, Tryz.ntmps87
  go_wp2_with (refine rw_load rfl 29 (.tmp 2) rfl w.heap.size rfl 29 (#[.pointer (some ⟨d, 0, none⟩), .pointer (some a1), .pointer (some a2), .pointer (some a3)] : Array Value) (0, 0) _ HX.out Tryz.underlying29 rfl (by kernel_rfl) ?_)
  refine (HR.out _).mono ?_
  rintro e w1 ⟨rfl, hb⟩
  have H1 := hide ((hb.block _ (heap_lt HX.out)).trans HX.out)
  have B1 := hide (HB.out.trans (hb.mono HB.out.size))
  have D1 := hide ((HD.out.below ((Below.refl w.heap.size w).alloc (Nat.le_refl _) _)).below hb)
  clear hb HR
  have c0 := cell_of_block H1.out 0
  go_wp2_with fail
  refine (HCH.out _ D1.out).mono ?_
  rintro e w2 ⟨rfl, rfl⟩
  go_wp2_with fail
  refine (HSH.out _ D1.out.chip).mono ?_
  rintro e w2 ⟨rfl, hb⟩
  have B2 := hide (B1.out.trans (hb.mono B1.out.size))
  clear hb c0
  go_wp2_with fail
  go_ret
  exact ⟨rfl, B2.out⟩
end
end Go.Proofs.YtjfmkfhjbdiojaaGreat

namespace Go.Proofs.YtjfmkfhjbdiojaaGreat
set_option linter.unusedSimpArgs false
set_option linter.unusedVariables false
open Go.RowKit Go.WideShapes Go.ChangeShapes Go.ChangeAt Go.Deep W
/-- of the cells, those of these types alone have turned -/
def KeepsC (Ts : List TypeId) (w w' : World) : Prop := ∀ (k : Nat) (c : Array Value) (t : TypeId) (fz : Nat × Nat), w.heap[k]? = some (.cells c t fz) → t ∉ Ts → w'.heap[k]? = some (.cells c t fz)
theorem KeepsC.refl (Ts : List TypeId) (w : World) : KeepsC Ts w w := fun _ _ _ _ h _ => h
theorem KeepsC.of_keeps {Ts : List TypeId} {w w' : World} (h : KeepsT Ts w w') : KeepsC Ts w w' := fun _ _ _ _ hk ht => h.cells hk ht
theorem KeepsC.trans {Ts : List TypeId} {a b c : World} (h : KeepsC Ts a b) (k : KeepsC Ts b c) : KeepsC Ts a c := fun i x t f hi ht => k i x t f (h i x t f hi ht) ht
theorem KeepsC.mono {Ts Us : List TypeId} {a b : World} (h : KeepsC Ts a b) (hs : ∀ t ∈ Ts, t ∈ Us) : KeepsC Us a b := fun i x t f hi ht => h i x t f hi (fun hm => ht (hs t hm))
theorem KeepsC.of_onlyL {Ts : List TypeId} {qs : List Nat} {w w' : World} (h : OnlyL qs w w') (hq : ∀ k ∈ qs, ∀ (c : Array Value) (t : TypeId) (fz : Nat × Nat), w.heap[k]? = some (.cells c t fz) → t ∈ Ts) : KeepsC Ts w w' := fun k c t fz hk ht => by
  by_cases e : k ∈ qs
  · exact absurd (hq k e c t fz hk) ht
  · exact (h.block k (heap_lt hk) e).trans hk
theorem RwAt.keepsC {α : Type} {w w' : World} {q : Nat} {T : TypeId} {n : Nat} {f : Nat → α → List Value} {dd : α} {L : List α} {Ts : List TypeId} (h : RwAt w q T n f dd L) (hk : KeepsC Ts w w') (ht : T ∉ Ts) : RwAt w' q T n f dd L := by
  obtain ⟨cs, h1, h2⟩ := h.ex
  exact ⟨⟨cs, hk _ _ _ _ h1 ht, h2⟩⟩
theorem MapIs.notCells {w : World} {P : Program} {k : TypeId} {b n c : Nat} {f : Lit → Option Value} (h : MapIs w P k b n c f) (x : Array Value) (t : TypeId) (fz : Nat × Nat) : ¬ w.heap[b]? = some (.cells x t fz) := by
  obtain ⟨D, ⟨es, clock, h1, h2⟩, h3⟩ := h
  rw [h1]
  intro e
  cases e
/-- where a mover's parts are -/
structure MvA where
  sb : Nat
  d : Nat
  b : Nat
  p : Nat
  q : Nat
  B : Nat
  G : Nat → Nat
  pp : Nat
  pq : Nat
  mp : Nat
  mq : Nat
  mo : Nat
  ml : Nat
structure MvAt (w : World) (B0 : Nat) (A : MvA) (nb pg : Nat) (X : MvS) : Prop where
  st : StAt w B0 A.sb A.d A.b A.p A.q A.B A.G X.S X.K A.pp A.pq X.L X.op X.lf
  mp : WhereAt w A.mp A.mq A.mo A.ml (pg : Int) nb X.M
  low : B0 ≤ A.mq ∧ B0 ≤ A.mo ∧ B0 ≤ A.ml
def MTs : List TypeId := [111, 122, 107, 147, 117, 129, 87, 3]
/-- what is no row of cells stays, but for the block mo -/
def KeepsO (mo : Nat) (w w' : World) : Prop := ∀ (k : Nat) (o : Obj), w.heap[k]? = some o → (∀ c t fz, o ≠ .cells c t fz) → k ≠ mo → w'.heap[k]? = some o
/-- below B0 nothing has turned, of the rest the mover's own types and its map's block alone -/
def TurnM (B0 mo : Nat) (w w' : World) : Prop := Below B0 w w' ∧ KeepsC MTs w w' ∧ KeepsO mo w w'
theorem TurnM.refl (B0 mo : Nat) (w : World) : TurnM B0 mo w w := ⟨Below.refl _ _, KeepsC.refl _ _, fun _ _ h _ _ => h⟩
theorem TurnM.trans {B0 mo : Nat} {a b c : World} (h : TurnM B0 mo a b) (k : TurnM B0 mo b c) : TurnM B0 mo a c := ⟨h.1.trans k.1, h.2.1.trans k.2.1, fun i o hi hn hm => k.2.2 i o (h.2.2 i o hi hn hm) hn hm⟩
theorem TurnM.of_below {B0 mo : Nat} {w w' : World} (h : Below w.heap.size w w') (hB : B0 ≤ w.heap.size) : TurnM B0 mo w w' := ⟨h.mono hB, .of_keeps (KeepsT.of_below h), fun k o hk _ _ => (h.block k (heap_lt hk)).trans hk⟩
theorem TurnM.of_turnB {B0 mo : Nat} {w w' : World} (h : TurnB B0 w w') : TurnM B0 mo w w' := ⟨h.1, (KeepsC.of_keeps h.2).mono (by decide), fun k o hk hn _ => h.2 k o hk (fun c t fz e => absurd e (hn c t fz))⟩
theorem TurnM.keep {B0 mo : Nat} {w w' : World} (h : TurnM B0 mo w w') {k : Nat} {c : Array Value} {t : TypeId} {fz : Nat × Nat} (hk : w.heap[k]? = some (.cells c t fz)) (ht : t ∉ MTs) : w'.heap[k]? = some (.cells c t fz) := h.2.1 _ _ _ _ hk ht
theorem TurnM.keepMap {B0 mo : Nat} {w w' : World} (h : TurnM B0 mo w w') {P : Program} {k : TypeId} {b n c : Nat} {f : Lit → Option Value} (hm : MapIs w P k b n c f) (hb : b ≠ mo) : MapIs w' P k b n c f := by
  obtain ⟨ob, hob⟩ : ∃ ob, w.heap[b]? = some ob := ⟨w.heap[b]'hm.lt, Array.getElem?_eq_getElem hm.lt⟩
  refine hm.kept ?_
  rw [h.2.2 b ob hob (fun x t fz e => by subst e; exact hm.notCells x t fz hob) hb, hob]
theorem TurnM.new {B0 mo : Nat} {a w : World} {r : Nat} (h : TurnM B0 mo a w) (hr : a.heap.size ≤ r) (hB : B0 ≤ a.heap.size) (cs : Array Value) : TurnM B0 mo a (w.setRow r cs) := by
  have hlt : ∀ k o, a.heap[k]? = some o → k ≠ r := fun k o hk e => by
    rw [Array.getElem?_eq_none (by omega)] at hk
    cases hk
  refine ⟨setRow_below h.1 (Nat.le_trans hB hr) (Nat.le_trans hB h.1.size) cs, fun k c t fz hk hn => ?_, fun k o hk hn hm => ?_⟩
  · rw [setRow_diff (fun e => hlt k _ hk e.symm)]; exact h.2.1 k c t fz hk hn
  · rw [setRow_diff (fun e => hlt k _ hk e.symm)]; exact h.2.2 k o hk hn hm
theorem TurnM.drew {B0 mo : Nat} {a b : World} (h : TurnM B0 mo a b) : TurnM B0 mo a b.drew := ⟨h.1.drew, h.2⟩
section
variable {w w' : World} {B0 sb d b p q B pp pq : Nat} {G : Nat → Nat} {S S' : ChipM} {K K' : List KnM} {L L' : List (Int × Int)} {op lf : Int}
theorem NandAt.keepsC {Ts : List TypeId} (h : NandAt w p q B G S) (hk : KeepsC Ts w w') (h1 : 111 ∉ Ts) (h2 : 122 ∉ Ts) (h3 : 107 ∉ Ts) : NandAt w' p q B G S :=
  ⟨hk _ _ _ _ h.head h1, h.row.keepsC hk h2, fun k hl => (h.page k hl).keepsC hk h3, h.inj, h.base, h.len, h.few⟩
theorem DriveAt.keepsC {Ts : List TypeId} (h : DriveAt w d b p q B G S K) (hk : KeepsC Ts w w') (h1 : 111 ∉ Ts) (h2 : 122 ∉ Ts) (h3 : 107 ∉ Ts) (h4 : 98 ∉ Ts) (h5 : 147 ∉ Ts) : DriveAt w' d b p q B G S K := by
  obtain ⟨ds, c1, c2⟩ := h.head
  exact ⟨⟨ds, hk _ _ _ _ c1 h4, c2⟩, h.row.keepsC hk h5, h.chip.keepsC hk h1 h2 h3, h.len⟩
theorem PoolAt.keepsC {Ts : List TypeId} (h : PoolAt w pp pq L) (hk : KeepsC Ts w w') (h1 : 115 ∉ Ts) (h2 : 117 ∉ Ts) : PoolAt w' pp pq L := ⟨hk _ _ _ _ h.head h1, hk _ _ _ _ h.row h2, h.ne⟩
theorem StAt.keepsC {Ts : List TypeId} (h : StAt w B0 sb d b p q B G S K pp pq L op lf) (hk : KeepsC Ts w w') (h0 : 129 ∉ Ts) (h1 : 111 ∉ Ts) (h2 : 122 ∉ Ts) (h3 : 107 ∉ Ts) (h4 : 98 ∉ Ts) (h5 : 147 ∉ Ts) (h6 : 115 ∉ Ts) (h7 : 117 ∉ Ts) : StAt w' B0 sb d b p q B G S K pp pq L op lf :=
  ⟨hk _ _ _ _ h.head h0, h.drive.keepsC hk h1 h2 h3 h4 h5, h.pool.keepsC hk h6 h7, h.low⟩
theorem WhereAt.keepsT {Ts : List TypeId} {p q o l : Nat} {pg : Int} {nb : Nat} {S : Spots} (h : WhereAt w p q o l pg nb S) (hk : KeepsT Ts w w') (h1 : 91 ∉ Ts) (h2 : 87 ∉ Ts) (h3 : 3 ∉ Ts) : WhereAt w' p q o l pg nb S := by
  obtain ⟨f, hm, -⟩ := h.own
  refine h.kept ((hk.cells h.head h1).trans h.head.symm) ((hk.cells h.row h2).trans h.row.symm) ?_ ((hk.cells h.live h3).trans h.live.symm)
  obtain ⟨ob, hob⟩ : ∃ ob, w.heap[o]? = some ob := ⟨w.heap[o]'hm.lt, Array.getElem?_eq_getElem hm.lt⟩
  rw [hob]
  refine hk o ob hob ?_
  rintro c t fz rfl
  exact absurd hob (hm.notCells c t fz)
end
section
variable {w w' : World} {B0 nb pg : Nat} {A : MvA} {X X' : MvS}
theorem MvAt.size (h : MvAt w B0 A nb pg X) : B0 ≤ w.heap.size := h.st.size
theorem MvAt.below (h : MvAt w B0 A nb pg X) (hb : Below w.heap.size w w') : MvAt w' B0 A nb pg X := ⟨h.st.below hb, h.mp.below hb, h.low⟩
theorem MvAt.drew (h : MvAt w B0 A nb pg X) : MvAt w.drew B0 A nb pg X := ⟨h.st.drew, h.mp.drew, h.low⟩
theorem MvAt.keepsT {Ts : List TypeId} (h : MvAt w B0 A nb pg X) (hk : KeepsT Ts w w') (h0 : 129 ∉ Ts) (h1 : 111 ∉ Ts) (h2 : 122 ∉ Ts) (h3 : 107 ∉ Ts) (h4 : 98 ∉ Ts) (h5 : 147 ∉ Ts) (h6 : 115 ∉ Ts) (h7 : 117 ∉ Ts) (h8 : 91 ∉ Ts) (h9 : 87 ∉ Ts) (h10 : 3 ∉ Ts) : MvAt w' B0 A nb pg X :=
  ⟨h.st.keepsT hk h0 h1 h2 h3 h4 h5 h6 h7, h.mp.keepsT hk h8 h9 h10, h.low⟩
/-- the stream's part has turned -/
theorem MvAt.stTo (h : MvAt w B0 A nb pg X) (hs : StAt w' B0 A.sb A.d A.b A.p A.q A.B A.G X'.S X'.K A.pp A.pq X'.L X'.op X'.lf) (hb : TurnB B0 w w') (hM : X'.M = X.M) : MvAt w' B0 A nb pg X' :=
  ⟨hs, by rw [hM]; exact h.mp.keepsT hb.2 (by decide) (by decide) (by decide), h.low⟩
/-- the map's part has turned -/
theorem MvAt.mpTo (h : MvAt w B0 A nb pg X) (hm : WhereAt w' A.mp A.mq A.mo A.ml (pg : Int) nb X'.M) (ho : OnlyL [A.mq, A.mo, A.ml] w w') (hX : X'.S = X.S ∧ X'.K = X.K ∧ X'.L = X.L ∧ X'.op = X.op ∧ X'.lf = X.lf) : MvAt w' B0 A nb pg X' ∧ TurnM B0 A.mo w w' := by
  obtain ⟨f, hf, -⟩ := h.mp.own
  have hk : KeepsC [87, 3] w w' := KeepsC.of_onlyL ho (by
    intro k hk c t fz hc
    simp only [List.mem_cons, List.mem_nil_iff, or_false] at hk
    rcases hk with rfl | rfl | rfl
    · rw [h.mp.row] at hc; cases hc; decide
    · exact absurd hc (hf.notCells c t fz)
    · rw [h.mp.live] at hc; cases hc; decide)
  obtain ⟨x1, x2, x3, x4, x5⟩ := hX
  refine ⟨⟨?_, hm, h.low⟩, ho.below (Below.refl B0 w) ?_ h.size, hk.mono (by decide), ?_⟩
  · rw [x1, x2, x3, x4, x5]
    exact h.st.keepsC hk (by decide) (by decide) (by decide) (by decide) (by decide) (by decide) (by decide) (by decide)
  · intro r hr
    simp only [List.mem_cons, List.mem_nil_iff, or_false] at hr
    rcases hr with rfl | rfl | rfl
    · exact h.low.1
    · exact h.low.2.1
    · exact h.low.2.2
  · intro k o hk hn hmo
    refine (ho.block k (heap_lt hk) ?_).trans hk
    simp only [List.mem_cons, List.mem_nil_iff, or_false]
    rintro (e | e | e)
    · subst e; rw [h.mp.row] at hk; exact hn _ _ _ (Option.some.inj hk).symm
    · exact hmo e
    · subst e; rw [h.mp.live] at hk; exact hn _ _ _ (Option.some.inj hk).symm
/-- what a page more does -/
structure PutX (nb pg sz : Nat) (N : Int) (X X' : MvS) (k j : Nat) (t : TgM) (td : List UInt8) : Prop where
  ok : HOk nb pg sz (N + 3) X'
  lies : Lies sz X'.S k j t td
  kj : k < nb ∧ 1 ≤ j ∧ j < pg
  used : (X'.L.getD k (0, 0)).1 = 2
  next : (X'.S.blk k).next = (j : Int) + 1
  fresh : ∀ l, X.M.getD l none ≠ some ((k : Int), (j : Int))
  same : X'.M = X.M ∧ X'.D = X.D
  op : X'.op = (k : Int)
  how : (1 ≤ X.lf ∧ X.op = (k : Int) ∧ X'.L = X.L ∧ X'.lf = X.lf - 1) ∨ (X.lf = 0 ∧ (X.L.getD k (0, 0)).1 = 1 ∧ (∀ i, i < X.L.length → (X.L.getD i (0, 0)).1 = 1 → (X.L.getD k (0, 0)).2 ≤ (X.L.getD i (0, 0)).2) ∧ X'.L = X.L.set k (2, (X.L.getD k (0, 0)).2 + 1) ∧ X'.lf = (pg : Int) - 2)
def Put16 (B0 : Nat) (A : MvA) (nb pg sz : Nat) (N : Int) (X : MvS) (t : TgM) (td : List UInt8) (w : World) (e : Ending) (w' : World) : Prop :=
  ∃ (X' : MvS) (k j : Nat), e = .returned (.tuple #[.agg #[.int .i64 (k : Int), .int .i64 (j : Int)], .int .i64 0]) ∧ PutX nb pg sz N X X' k j t td ∧ MvAt w' B0 A nb pg X' ∧ TurnB B0 w w'
set_option maxHeartbeats 2000000 in
theorem put16 {sz : Nat} {N : Int} (hok : HOk nb pg sz N X) (hN : N ≤ 800000) (hpg : 2 ≤ pg) (hpg2 : pg ≤ 1000) (hnb : nb ≤ 256) (hr : 1 ≤ X.lf ∨ 1 ≤ freeN X.L) (t : TgM) (ht : t.ok) (td : List UInt8) (hd : td.length = sz) (w : World) (h : MvAt w B0 A nb pg X) :
    Calls Tryz.prog 30 #[.pointer (some ⟨A.sb, 0, none⟩), .agg #[.int .u8 t.k, .int .i64 t.l, .int .u64 t.s, .int .i64 t.n, .int .i64 t.m], .string (bs td)] w (Put16 B0 A nb pg sz N X t td w) := by
  obtain ⟨ht1, ht2, ht3⟩ := id ht
  have hroom := hok.room
  rcases (show 1 ≤ X.lf ∨ X.lf = 0 by omega) with hl | hl
  · rcases hok.opn with ⟨-, hh⟩ | ⟨k, j, o1, o2, o3, o4, o5, o6⟩
    · omega
    · obtain ⟨a1, a2, a3⟩ := hok_left hok t ht td hd k j o1 o2 o3 hl o4 o5
      refine (put_go (S := X.S) (S1 := X.S) (K := X.K) (K1 := X.K) (L := X.L) (L1 := X.L) (op := X.op) (lf := X.lf) (lf1 := X.lf) (N := N) k j
        (.inl ⟨by omega, rfl, rfl, rfl, o1, rfl⟩)
        hok.heal (by omega) ⟨rfl, rfl, rfl⟩ (by rw [hok.klen, hok.dims.1]) (by rw [hok.dims.1]; exact o2) (by rw [hok.dims.2.1]; omega) o5 o6 (by omega) t.k t.l t.s t.n t.m ht1 ht2 ht3 td (by rw [hok.dims.2.2]; exact hd) w h.st).mono ?_
      rintro e w' ⟨rfl, hs, hb⟩
      refine ⟨leftX X k j t td, k, j, rfl, ⟨a1.mono (by omega), a2, ⟨o2, by omega, by omega⟩, o4, a3, ?_, ⟨rfl, rfl⟩, o1, .inl ⟨hl, o1, rfl, rfl⟩⟩, h.stTo (X' := leftX X k j t td) (by rw [show (leftX X k j t td).op = X.op from rfl, o1]; exact hs) hb rfl, hb⟩
      intro l hl'
      obtain ⟨k', j', e1, -, -, -, b4, -⟩ := hok.has l _ hl'
      simp only [Prod.mk.injEq, Int.natCast_inj] at e1
      obtain ⟨rfl, rfl⟩ := e1
      omega
  · obtain ⟨k, k1, k2, k3, k4, k5⟩ := take_spec (L := X.L) (by omega)
    have hk : k < nb := by rw [hok.llen] at k1; exact k1
    have hw := hok.wear k hk
    obtain ⟨b1, b2, b3, b4⟩ := hok_open hok hpg k hk k3
    have hlf : (openX X k).lf = (pg : Int) - 1 := by show (X.S.pgs : Int) - 1 = _; rw [hok.dims.2.1]
    obtain ⟨a1, a2, a3⟩ := hok_left b1 t ht td hd k 1 rfl hk (by rw [hlf]; omega) (by rw [hlf]; omega) b4 b2
    have hsn : sndZ (X.L.set k (2, (X.L.getD k (0, 0)).2)) (k : Int) + 1 = (X.L.getD k (0, 0)).2 + 1 := by
      unfold sndZ
      rw [if_pos (by rw [List.length_set]; omega), Int.toNat_natCast, pr_self _ k k1]
    have hL1 : (X.L.set k (2, (X.L.getD k (0, 0)).2)).set k (((X.L.set k (2, (X.L.getD k (0, 0)).2)).getD k (0, 0)).1, (X.L.getD k (0, 0)).2 + 1) = X.L.set k (2, (X.L.getD k (0, 0)).2 + 1) := by
      rw [pr_self _ k k1, List.set_set]
    have hS1 : (openS X.S k ((X.L.getD k (0, 0)).2 + 1)).L.length = nb := b1.dims.1
    refine (put_go (S := X.S) (S1 := (openX X k).S) (K := X.K) (K1 := (openX X k).K) (L := X.L) (L1 := (openX X k).L) (op := X.op) (lf := X.lf) (lf1 := (X.S.pgs : Int) - 1) (N := N + 2) k 1
      (.inr ⟨hl, fun W hW => (begin_ok (L1 := X.L.set k (2, (X.L.getD k (0, 0)).2)) k k2 k4 (by rw [hok.llen]; omega) hok.heal (by omega) (by rw [hok.dims.1]; exact hk) (by rw [List.length_set]; exact k1) (hok.bad k hk) ((X.L.getD k (0, 0)).2 + 1) hsn (by omega) (by omega) W hW).mono (fun e w' hh => by rw [hL1] at hh; exact hh)⟩)
      b1.heal (by omega) (open_dims hok.heal k (by rw [hok.dims.1]; exact hk) _) (by show (openX X k).K.length = (openX X k).S.L.length; rw [b1.klen, b1.dims.1]) (by rw [b1.dims.1]; exact hk) (by rw [b1.dims.2.1]; omega) b2 b3 (by rw [hok.dims.2.1]; omega) t.k t.l t.s t.n t.m ht1 ht2 ht3 td (by rw [b1.dims.2.2]; exact hd) w h.st).mono ?_
    rintro e w' ⟨rfl, hs, hb⟩
    refine ⟨leftX (openX X k) k 1 t td, k, 1, rfl, ⟨a1.mono (by omega), a2, ⟨hk, by omega, by omega⟩, b4, a3, ?_, ⟨rfl, rfl⟩, rfl, .inr ⟨hl, k3, k5, rfl, by show (openX X k).lf - 1 = _; rw [hlf]; omega⟩⟩, h.stTo (X' := leftX (openX X k) k 1 t td) hs hb rfl, hb⟩
    intro l hl'
    obtain ⟨k', j', e1, -, -, c4, -, -⟩ := hok.has l _ hl'
    simp only [Prod.mk.injEq, Int.natCast_inj] at e1
    obtain ⟨rfl, rfl⟩ := e1
    omega
/-- a logical page gets a place that is no other's -/
theorem wput16 (hpg : pg ≤ 64) (hnb : nb ≤ 256) (l k j : Nat) (t : TgM) (td : List UInt8) (hl : l < X.M.length) (hk : k < nb) (hj : j < pg) (hf : ∀ i, X.M.getD i none = some ((k : Int), (j : Int)) → i = l) (w : World) (h : MvAt w B0 A nb pg X) :
    Calls Tryz.prog 31 #[.pointer (some ⟨A.mp, 0, none⟩), .int .i64 (l : Int), .agg #[.int .i64 (k : Int), .int .i64 (j : Int)]] w fun e w' => e = .returned (.int .i64 0) ∧ MvAt w' B0 A nb pg (mapX X l k j t td) ∧ TurnM B0 A.mo w w' := by
  have hj' : owner X.M ((k : Int), (j : Int)) = none ∨ owner X.M ((k : Int), (j : Int)) = some l := by
    cases ho : owner X.M ((k : Int), (j : Int)) with
    | none => exact .inl rfl
    | some i =>
      have h1 := owner_some ho
      have h2 := hf i (by simp [List.getD, h1])
      exact .inr (by rw [h2])
  refine (put_ok h.mp l k j hl hk (by omega) hj').mono ?_
  rintro e w' ⟨rfl, hm, ho⟩
  obtain ⟨m1, m2⟩ := h.mpTo (X' := mapX X l k j t td) hm ho ⟨rfl, rfl, rfl, rfl, rfl⟩
  exact ⟨rfl, m1, m2⟩
end
end Go.Proofs.YtjfmkfhjbdiojaaGreat
