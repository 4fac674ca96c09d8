/-
  Layer 28: the law's replies as they come in.
-/
import Derived.Test.YtkbikflincjhhaaRepA
import Derived.Test.YtkbikflincjhhaaMRep2
import Derived.Test.YtkbikflincjhhaaReqO2

namespace Go.Proofs.Ytkbikflincjhhaa
set_option linter.unusedSimpArgs false
set_option linter.unusedVariables false
open Go.RowKit Go.WideShapes Go.ChangeShapes Go.ChangeAt Go.Deep
section
variable {H : Type} {enc : TypeId × Value → H} {P : Program} {w : World} {base : Nat} {sp : Nat → Bool} {held : Bool}
/-- an array of numbers that is a field -/
theorem nums_in {k : IntKind} {t t0 : TypeId} {m0 : Nat} {l : List Value} {y : DataW H × List MemPlace} (n : Nat) (hs : P.underlying t = some (.array n t0)) (h0 : P.underlying t0 = some (.int k)) (h1 : P.cellsOf t0 = 1) (hl : l.length = n)
    (hh : DataW.trod enc P w base sp held m0 t l = some y) : ∃ xs : List Int, xs.length = n ∧ l = xs.map (Value.int k) ∧ ∀ x ∈ xs, (Lit.int k x).wf = true := by
  obtain ⟨ys, m, _, _, _, hxl, hi⟩ := DataW.trod_array hs hh
  rw [h1] at hi
  exact nums_of_cells (m := m) (enc := enc) (w := w) (base := base) (sp := sp) (held := held) h0 n l hl (fun i hin => by
    have := hi i hin
    have hi2 : i < ys.length := by omega
    exact ⟨ys[i], by simpa [List.getElem?_eq_getElem hi2] using this⟩)
end
/-- a reply of the law's as a value -/
structure InP where
  err : Int
  num : Int
  s0 : Int
  s1 : Int
  s2 : Int
  s3 : Int
  s4 : Int
  s5 : Int
  t0 : Int
  t1 : Int
  t2 : Int
  t3 : Int
  v : Bool
def InPOk (y : InP) : Prop := inR y.err ∧ inR y.num ∧ inR y.s0 ∧ inR y.s1 ∧ inR y.s2 ∧ inR y.s3 ∧ inR y.s4 ∧ inR y.s5 ∧ inR y.t0 ∧ inR y.t1 ∧ inR y.t2 ∧ inR y.t3
def inP (y : InP) (lv : Value) : Array Value := #[.int .i64 y.err, .int .i64 y.num, .int .i64 y.s0, .int .i64 y.s1, .int .i64 y.s2, .int .i64 y.s3, .int .i64 y.s4, .int .i64 y.s5, .int .i64 y.t0, .int .i64 y.t1, .int .i64 y.t2, .int .i64 y.t3, .bool y.v, lv]
theorem list14 {α : Type} (l : List α) (h : l.length = 14) : ∃ a b c d e f g i j k m n o p, l = [a, b, c, d, e, f, g, i, j, k, m, n, o, p] := by
  match l, h with
  | [a, b, c, d, e, f, g, i, j, k, m, n, o, p], _ => exact ⟨a, b, c, d, e, f, g, i, j, k, m, n, o, p, rfl⟩
theorem list6 {α : Type} (l : List α) (h : l.length = 6) : ∃ a b c d e f, l = [a, b, c, d, e, f] := by
  match l, h with
  | [a, b, c, d, e, f], _ => exact ⟨a, b, c, d, e, f, rfl⟩
theorem list4 {α : Type} (l : List α) (h : l.length = 4) : ∃ a b c d, l = [a, b, c, d] := by
  match l, h with
  | [a, b, c, d], _ => exact ⟨a, b, c, d, rfl⟩
set_option maxRecDepth 100000 in
theorem open_reply {H : Type} {enc : TypeId × Value → H} {w : World} {base : Nat} {sp : Nat → Bool} {held : Bool} {r : Reach} {b0 : Nat} {v : Value} {d : DataW H} {ps : List MemPlace}
    (hv : Value.okWide Try.prog w r b0 63 v) (h : DataW.Trod enc Try.prog w base sp held 63 v d ps) :
    ∃ (y : InP) (a : Option Addr) (L : List LnM) (cap : Nat), v = .agg (inP y (.slice a L.length cap)) ∧ InPOk y ∧ L.length ≤ cap ∧ L.length ≤ 9223372036854775807 ∧ LnIn w a L ∧ ∀ x ∈ L, LnOk x := by
  obtain ⟨⟨cl⟩, rfl, hsz⟩ := okWide_struct Try.underlying63 hv
  obtain ⟨fuel, hh⟩ := h
  obtain ⟨ys, m, _, _, _, hyl, hf⟩ := DataW.trod_struct Try.underlying63 hh
  have hsz' : cl.length = 14 := hsz
  have hyl' : ys.length = 6 := hyl
  obtain ⟨a0, a1, a2, a3, a4, a5, a6, a7, a8, a9, aa, ab, ac, ad, rfl⟩ := list14 cl hsz'
  obtain ⟨y0, y1, y2, y3, y4, y5, rfl⟩ := list6 ys hyl'
  obtain ⟨e, rfl, he⟩ : CellIs (.int .i64) a0 := cellIs_of (P := Try.prog) (t := 3) Try.underlying3 (hf 0 _ rfl)
  obtain ⟨n, rfl, hn⟩ : CellIs (.int .i64) a1 := cellIs_of (P := Try.prog) (t := 3) Try.underlying3 (hf 1 _ rfl)
  obtain ⟨S, hSl, hS, hSw⟩ := nums_in (P := Try.prog) (t := 60) (t0 := 2) (l := [a2, a3, a4, a5, a6, a7]) 6 Try.underlying60 Try.underlying2 (by kernel_rfl) rfl (hf 2 _ rfl)
  obtain ⟨T, hTl, hT, hTw⟩ := nums_in (P := Try.prog) (t := 61) (t0 := 3) (l := [a8, a9, aa, ab]) 4 Try.underlying61 Try.underlying3 (by kernel_rfl) rfl (hf 3 _ rfl)
  obtain ⟨bv, rfl⟩ : CellIs .bool ac := cellIs_of (P := Try.prog) (t := 4) Try.underlying4 (hf 4 _ rfl)
  obtain ⟨Lr, ⟨a, cap, rfl, hm, hcp, _, hat⟩, hty⟩ := open_rows_in (P := Try.prog) [.int .i64, .int .i64] Try.underlying23 Try.underlying79 (by kernel_rfl) (by kernel_rfl) (by decide) rfl (fun j hj => by
    have : j = 0 ∨ j = 1 := by simp at hj; omega
    rcases this with rfl | rfl <;> rfl) (show DataW.trod enc Try.prog w base sp held m 23 [ad] = some y5 from hf 5 _ rfl)
  obtain ⟨M, rfl, hM⟩ := rows_typed lnC LnOk Lr (fun x hx => by
    obtain ⟨hl, hcell⟩ := hty x hx
    match x, (show x.length = 2 from hl), hcell with
    | [x0, x1], _, hcell =>
      obtain ⟨k, rfl, hk⟩ := hcell 0 _ _ rfl rfl
      obtain ⟨b, rfl, hb⟩ := hcell 1 _ _ rfl rfl
      exact ⟨⟨k, b⟩, rfl, wf_i64 hk, wf_i64 hb⟩)
  obtain ⟨s0, s1, s2, s3, s4, s5, rfl⟩ := list6 S hSl
  obtain ⟨t0, t1, t2, t3, rfl⟩ := list4 T hTl
  simp only [List.map_cons, List.map_nil, List.cons.injEq, and_true] at hS hT
  obtain ⟨rfl, rfl, rfl, rfl, rfl, rfl⟩ := hS
  obtain ⟨rfl, rfl, rfl, rfl⟩ := hT
  refine ⟨⟨e, n, s0, s1, s2, s3, s4, s5, t0, t1, t2, t3, bv⟩, a, M, cap, by rw [List.length_map]; rfl, ⟨wf_i64 he, wf_i64 hn, wf_i64 (hSw s0 (by simp)), wf_i64 (hSw s1 (by simp)), wf_i64 (hSw s2 (by simp)), wf_i64 (hSw s3 (by simp)), wf_i64 (hSw s4 (by simp)), wf_i64 (hSw s5 (by simp)), wf_i64 (hTw t0 (by simp)), wf_i64 (hTw t1 (by simp)), wf_i64 (hTw t2 (by simp)), wf_i64 (hTw t3 (by simp))⟩, by simpa using hcp, by unfold maxLen at hm; simpa using hm, fun i hi => ?_, hM⟩
  obtain ⟨b, off, ha, hb, hcs⟩ := hat i (by simpa using hi)
  have e := getD_map lnC M ln0 i hi
  rw [e] at hcs
  refine ⟨b, off, ha, hb, ?_, ?_⟩
  · have := hcs 0 (show 0 < 2 by decide)
    rw [Nat.add_zero] at this
    exact this
  · have := hcs 1 (show 1 < 2 by decide)
    rw [← Nat.add_assoc] at this
    exact this
/-- the program's reply that 'reply' tells -/
def repM (y : InP) (L : List LnM) (n : Nat) : RpM := ⟨y.err, y.num, y.s5, y.s0, y.s1, y.s2, y.s3, y.s4, y.t0, IntKind.u8.wrap (bits BinOp.and .i64 y.t1 255), y.t2, y.t3, y.s2, y.s3, y.v, L.take n, y.s0, y.s1, y.v⟩
/-- what reply tells -/
def RepIs (y : InP) (L : List LnM) (n : Nat) (w : World) (e : Ending) (w' : World) : Prop := ∃ (a1 : Option Addr) (c1 : Nat), e = .returned (.agg (rpC (repM y L n) (.slice a1 n c1))) ∧ LnIn w' a1 (L.take n) ∧ Below w.heap.size w w'
end Go.Proofs.Ytkbikflincjhhaa
