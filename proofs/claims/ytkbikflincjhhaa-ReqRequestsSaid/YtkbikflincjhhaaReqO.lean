/-
  Layer 28: the law's requests as they come in; of.
-/
import Derived.Test.YtkbikflincjhhaaReqK
import Derived.Test.YtkbikflincjhhaaKitV

namespace Go.Proofs.Ytkbikflincjhhaa
set_option linter.unusedSimpArgs false
set_option linter.unusedVariables false
open Go.RowKit Go.WideShapes Go.ChangeShapes Go.ChangeAt Go.Deep
theorem field_in {H : Type} {enc : TypeId × Value → H} {P : Program} {w : World} {base : Nat} {sp : Nat → Bool} {held : Bool} {m : Nat} {t : TypeId} {d : TypeDesc} {cs : List Value} {y : Option (DataW H × List MemPlace)} {j : Nat} {ys : List (DataW H × List MemPlace)}
    (hd : P.underlying t = some d) (hj : j < cs.length) (hy : j < ys.length) (h : DataW.trod enc P w base sp held m t ((cs.drop j).take 1) = ys[j]?) : CellIs d cs[j] := by
  have h1 : (cs.drop j).take 1 = [cs[j]] := by rw [List.drop_eq_getElem_cons hj]; rfl
  rw [h1, List.getElem?_eq_getElem hy] at h
  exact cellIs_of hd h
/-- a request of the law's as a value -/
def InOk (y : RqM) : Prop := (0 ≤ y.k ∧ y.k ≤ 255) ∧ (0 ≤ y.key ∧ y.key ≤ 18446744073709551615) ∧ inR y.ref ∧ inR y.amt ∧ inR y.code ∧ (0 ≤ y.ak ∧ y.ak ≤ 255) ∧ y.name.size ≤ 9223372036854775807 ∧ inR y.n
theorem list9 {α : Type} (l : List α) (h : l.length = 9) : ∃ a b c d e f g i j, l = [a, b, c, d, e, f, g, i, j] := by
  match l, h with
  | [a, b, c, d, e, f, g, i, j], _ => exact ⟨a, b, c, d, e, f, g, i, j, rfl⟩
set_option maxRecDepth 100000 in
theorem open_req {H : Type} {enc : TypeId × Value → H} {w : World} {base : Nat} {sp : Nat → Bool} {held : Bool} {r : Reach} {b0 : Nat} {v : Value} {d : DataW H} {ps : List MemPlace}
    (hv : Value.okWide Try.prog w r b0 25 v) (h : DataW.Trod enc Try.prog w base sp held 25 v d ps) :
    ∃ (y : RqM) (a : Option Addr) (L : List LnM) (cap : Nat), v = .agg #[.int .u8 y.k, .int .i64 y.code, .int .u8 y.ak, .string y.name, .int .u64 y.key, .int .i64 y.ref, .int .i64 y.amt, .int .i64 y.n, .slice a L.length cap] ∧ InOk y ∧ L.length ≤ cap ∧ L.length ≤ 9223372036854775807 ∧ LnIn w a L ∧ ∀ x ∈ L, LnOk x := by
  obtain ⟨⟨cl⟩, rfl, hsz⟩ := okWide_struct Try.underlying25 hv
  obtain ⟨fuel, hh⟩ := h
  obtain ⟨ys, m, _, _, _, hyl, hf⟩ := DataW.trod_struct Try.underlying25 hh
  have hsz' : cl.length = 9 := hsz
  have hyl' : ys.length = 9 := hyl
  obtain ⟨a0, a1, a2, a3, a4, a5, a6, a7, a8, rfl⟩ := list9 cl hsz'
  obtain ⟨y0, y1, y2, y3, y4, y5, y6, y7, y8, rfl⟩ := list9 ys hyl'
  obtain ⟨k, rfl, hk⟩ : CellIs (.int .u8) a0 := cellIs_of (P := Try.prog) (t := 5) Try.underlying5 (hf 0 _ rfl)
  obtain ⟨c, rfl, hc⟩ : CellIs (.int .i64) a1 := cellIs_of (P := Try.prog) (t := 3) Try.underlying3 (hf 1 _ rfl)
  obtain ⟨ak, rfl, hak⟩ : CellIs (.int .u8) a2 := cellIs_of (P := Try.prog) (t := 5) Try.underlying5 (hf 2 _ rfl)
  obtain ⟨nm, rfl, hnm⟩ : CellIs .string a3 := cellIs_of (P := Try.prog) (t := 9) Try.underlying9 (hf 3 _ rfl)
  obtain ⟨key, rfl, hkey⟩ : CellIs (.int .u64) a4 := cellIs_of (P := Try.prog) (t := 22) Try.underlying22 (hf 4 _ rfl)
  obtain ⟨rf, rfl, hrf⟩ : CellIs (.int .i64) a5 := cellIs_of (P := Try.prog) (t := 3) Try.underlying3 (hf 5 _ rfl)
  obtain ⟨am, rfl, ham⟩ : CellIs (.int .i64) a6 := cellIs_of (P := Try.prog) (t := 2) Try.underlying2 (hf 6 _ rfl)
  obtain ⟨n, rfl, hn⟩ : CellIs (.int .i64) a7 := cellIs_of (P := Try.prog) (t := 3) Try.underlying3 (hf 7 _ rfl)
  obtain ⟨Lr, ⟨a, cap, rfl, hm, hcp, _, hat⟩, hty⟩ := open_rows_in (P := Try.prog) [.int .i64, .int .i64] Try.underlying23 Try.underlying79 (by kernel_rfl) (by kernel_rfl) (by decide) rfl (fun j hj => by
    have : j = 0 ∨ j = 1 := by simp at hj; omega
    rcases this with rfl | rfl <;> rfl) (show DataW.trod enc Try.prog w base sp held m 23 [a8] = some y8 from hf 8 _ rfl)
  obtain ⟨M, rfl, hM⟩ := rows_typed lnC LnOk Lr (fun x hx => by
    obtain ⟨hl, hcell⟩ := hty x hx
    match x, (show x.length = 2 from hl), hcell with
    | [x0, x1], _, hcell =>
      obtain ⟨k, rfl, hk⟩ := hcell 0 _ _ rfl rfl
      obtain ⟨b, rfl, hb⟩ := hcell 1 _ _ rfl rfl
      exact ⟨⟨k, b⟩, rfl, wf_i64 hk, wf_i64 hb⟩)
  refine ⟨{ rq0 with k := k, key := key, ref := rf, amt := am, code := c, ak := ak, name := nm, n := n }, a, M, cap, by rw [List.length_map], ⟨wf_u8 hk, wf_u64 hkey, wf_i64 hrf, wf_i64 ham, wf_i64 hc, wf_u8 hak, hnm, wf_i64 hn⟩, by simpa using hcp, by unfold maxLen at hm; simpa using hm, fun i hi => ?_, hM⟩
  obtain ⟨b, off, ha, hb, hcs⟩ := hat i (by simpa using hi)
  have e := getD_map lnC M ln0 i hi
  rw [e] at hcs
  refine ⟨b, off, ha, hb, ?_, ?_⟩
  · have := hcs 0 (show 0 < 2 by decide)
    rw [Nat.add_zero] at this
    exact this
  · have := hcs 1 (show 1 < 2 by decide)
    rw [← Nat.add_assoc] at this
    exact this
def nmB (s : ByteArray) : ByteArray := if 300 < s.size then s.extract 0 300 else s
theorem nmB_size (s : ByteArray) : (nmB s).size ≤ 300 := by
  unfold nmB
  split
  · rw [ByteArray.size_extract]; omega
  · omega
/-- what of tells: the program's request, the document's -/
def OfIs (y : RqM) (L : List LnM) (n : Nat) (w : World) (e : Ending) (w' : World) : Prop := ∃ (a1 : Option Addr) (c1 : Nat) (a2 : Option Addr) (c2 : Nat), e = .returned (.tuple #[.agg #[.int .u8 y.k, .int .u8 77, .int .u64 y.key, .int .i64 y.ref, .int .i64 y.amt, .int .i64 y.code, .int .u8 y.ak, .string (nmB y.name), .slice a1 n c1, .int .i64 y.n], .agg #[.int .u8 y.k, .int .i64 y.code, .int .u8 y.ak, .string (nmB y.name), .int .u64 y.key, .int .i64 y.ref, .int .i64 y.amt, .int .i64 y.n, .slice a2 n c2]]) ∧ LnIn w' a1 (L.take n) ∧ LnIn w' a2 (L.take n) ∧ Below w.heap.size w w'
end Go.Proofs.Ytkbikflincjhhaa
