/-
  Layer 5's laws: acts that come in; keys of the map; the chip of NandOnce, as a value.
-/
import Derived.Test.YthippbckjldijaaMFail
import Derived.DeepKeys4
--import Derived.Test.Zdbg
namespace Go.Proofs.Ythippbckjldijaa
set_option linter.unusedSimpArgs false
set_option linter.unusedVariables false
open Go.RowKit Go.WideShapes Go.ChangeShapes Go.ChangeAt Go.Deep

structure ActM where
  d : Int
  b : Int
  p : Int
  x : ByteArray
  y : ByteArray
def actC (a : ActM) : List Value := [.int .i64 a.d, .int .i64 a.b, .int .i64 a.p, .string a.x, .string a.y]
def act0 : ActM := ⟨0, 0, 0, ⟨#[]⟩, ⟨#[]⟩⟩
def Wide64 (a : Int) : Prop := -9223372036854775808 ≤ a ∧ a ≤ 9223372036854775807
def ActOk (a : ActM) : Prop := Wide64 a.d ∧ Wide64 a.b ∧ Wide64 a.p ∧ a.x.size ≤ 9223372036854775807 ∧ a.y.size ≤ 9223372036854775807
/-- a slice of acts that comes in -/
def ActsIn (w : World) (a : Option Addr) (L : List ActM) : Prop := ∀ i, i < L.length → ∃ b off, a = some ⟨b, off, none⟩ ∧ b < w.heap.size ∧ w.cell? ⟨b, off + i * 5, none⟩ = some (.int .i64 (L.getD i act0).d) ∧ w.cell? ⟨b, off + i * 5 + 1, none⟩ = some (.int .i64 (L.getD i act0).b) ∧ w.cell? ⟨b, off + i * 5 + 2, none⟩ = some (.int .i64 (L.getD i act0).p) ∧ w.cell? ⟨b, off + i * 5 + 3, none⟩ = some (.string (L.getD i act0).x) ∧ w.cell? ⟨b, off + i * 5 + 4, none⟩ = some (.string (L.getD i act0).y)
theorem ActsIn.below {w w' : World} {a : Option Addr} {L : List ActM} (h : ActsIn w a L) (hb : Below w.heap.size w w') : ActsIn w' a L := fun i hi => by
  obtain ⟨b, off, ha, hbl, c0, c1, c2, c3, c4⟩ := h i hi
  exact ⟨b, off, ha, Nat.lt_of_lt_of_le hbl hb.size, cell_keep c0 hbl hb, cell_keep c1 hbl hb, cell_keep c2 hbl hb, cell_keep c3 hbl hb, cell_keep c4 hbl hb⟩
set_option maxRecDepth 100000 in
theorem open_acts {H : Type} {enc : TypeId × Value → H} {w : World} {base : Nat} {sp : Nat → Bool} {held : Bool} {r : Reach} {b0 : Nat} {v : Value} {d : DataW H} {ps : List MemPlace}
    (hv : Value.okWide Try.prog w r b0 24 v) (h : DataW.Trod enc Try.prog w base sp held 24 v d ps) :
    ∃ (a : Option Addr) (L : List ActM) (cap : Nat), v = .slice a L.length cap ∧ L.length ≤ cap ∧ L.length ≤ 9223372036854775807 ∧ ActsIn w a L ∧ ∀ x ∈ L, ActOk x := by
  obtain ⟨L, ⟨a, cap, rfl, hm, hc, _, hat⟩, hty⟩ := open_rows [.int .i64, .int .i64, .int .i64, .string, .string] Try.underlying24 Try.underlying38 (by kernel_rfl) (by kernel_rfl) (by decide) rfl (fun j hj => by
    have : j = 0 ∨ j = 1 ∨ j = 2 ∨ j = 3 ∨ j = 4 := by simp at hj; omega
    rcases this with rfl | rfl | rfl | rfl | rfl <;> rfl) hv h
  obtain ⟨M, rfl, hM⟩ := rows_typed actC ActOk L (fun x hx => by
    obtain ⟨hl, hcell⟩ := hty x hx
    match x, (show x.length = 5 from hl), hcell with
    | [x0, x1, x2, x3, x4], _, hcell =>
      obtain ⟨k, rfl, hk⟩ := hcell 0 _ _ rfl rfl
      obtain ⟨b, rfl, hb⟩ := hcell 1 _ _ rfl rfl
      obtain ⟨n, rfl, hn⟩ := hcell 2 _ _ rfl rfl
      obtain ⟨s, rfl, hs⟩ := hcell 3 _ _ rfl rfl
      obtain ⟨t, rfl, ht⟩ := hcell 4 _ _ rfl rfl
      exact ⟨⟨k, b, n, s, t⟩, rfl, wf_i64 hk, wf_i64 hb, wf_i64 hn, hs, ht⟩)
  refine ⟨a, M, cap, by rw [List.length_map], by simpa using hc, by unfold maxLen at hm; simpa using hm, fun i hi => ?_, hM⟩
  obtain ⟨b, off, ha, hb, hcs⟩ := hat i (by simpa using hi)
  have e := getD_map actC M act0 i hi
  rw [e] at hcs
  refine ⟨b, off, ha, hb, ?_, ?_, ?_, ?_, ?_⟩
  · have := hcs 0 (show 0 < 5 by decide)
    rw [Nat.add_zero] at this
    exact this
  · have := hcs 1 (show 1 < 5 by decide)
    rw [← Nat.add_assoc] at this
    exact this
  · have := hcs 2 (show 2 < 5 by decide)
    rw [← Nat.add_assoc] at this
    exact this
  · have := hcs 3 (show 3 < 5 by decide)
    rw [← Nat.add_assoc] at this
    exact this
  · have := hcs 4 (show 4 < 5 by decide)
    rw [← Nat.add_assoc] at this
    exact this

/- the map's keys: pairs -/
def pairV (b p : Int) : Value := .agg #[.int .i64 b, .int .i64 p]
def pairL (b p : Int) : Lit := .string (keyBytes [.int .i64 b, .int .i64 p])
theorem typesOne : ∃ n, Try.prog.types.size = n + 1 := ⟨Try.prog.types.size - 1, by have : 0 < Try.prog.types.size := of_decide_eq_true (by kernel_rfl); omega⟩
theorem wideP2 : (match Try.prog.underlying 63 with | some (.array _ _) | some (.struct _) => true | _ => false) = true := by kernel_rfl
theorem cellsP2 : Try.prog.cellsOf 63 = 2 := by kernel_rfl
theorem cellsI : Try.prog.cellsOf 3 = 1 := by kernel_rfl
theorem keyTypeP2 : Try.prog.keyType 63 = true := by kernel_rfl
set_option maxRecDepth 100000 in
theorem KeyedP2 : Maps.Keyed Try.prog 63 := Maps.Keyed.of_law (deep_law_laid laidOut (m := 2) (by omega) (of_decide_eq_true (by kernel_rfl)) (by kernel_rfl) wideP2)
theorem lits_int {n : Nat} {a : Int} (h : Wide64 a) : Try.prog.keyLits (n + 1) 3 [.int .i64 a] = some [.int .i64 a] := by
  unfold Program.keyLits
  rw [Try.underlying3]
  simp [show (Lit.int .i64 a).wf = true from WalkArith.wf_i64 h]
theorem key_pair {b p : Int} (hb : Wide64 b) (hp : Wide64 p) : keyOf Try.prog 63 (pairV b p) = some (pairL b p) := by
  obtain ⟨n, hn⟩ := typesOne
  have hf : (pairV b p).formed Try.prog 63 = true := by simp [pairV, Value.formed, Try.underlying63, cellsP2]
  have hl : Try.prog.keyLits (Try.prog.types.size + 1) 63 [.int .i64 b, .int .i64 p] = some [.int .i64 b, .int .i64 p] := by
    rw [hn]
    unfold Program.keyLits
    rw [Try.underlying63]
    simp [cellsP2, cellsI, lits_int hb, lits_int hp, List.range, List.range.loop]
  unfold keyOf
  rw [Try.underlying63]
  simp only [keyTypeP2, hf, Bool.and_self, if_true]
  rw [show (pairV b p).cells.toList = [.int .i64 b, .int .i64 p] from rfl, hl]
  rfl
theorem isKey_pair (b p : Int) : WideAt.IsKeyLit (pairL b p) := trivial
theorem pair_inj {b p b' p' : Int} (hb : Wide64 b) (hp : Wide64 p) (hb' : Wide64 b') (hp' : Wide64 p') (h : pairL b p = pairL b' p') : b = b' ∧ p = p' := by
  have := KeyedP2.inj (key_pair hb hp) (h ▸ key_pair hb' hp')
  simpa [pairV] using this
theorem zero_str (w : World) : (zeroValue 9).run Try.prog w = .ok (.string ⟨#[]⟩) w := by kernel_rfl
end Go.Proofs.Ythippbckjldijaa
