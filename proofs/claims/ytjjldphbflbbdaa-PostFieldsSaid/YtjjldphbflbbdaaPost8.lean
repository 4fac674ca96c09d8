/-
  Layer 22: lines that come in.
-/
import Derived.Test.YtjjldphbflbbdaaPost7
import Derived.Test.YtjjldphbflbbdaaKitE
namespace Go.Proofs.Ytjjldphbflbbdaa
set_option linter.unusedSimpArgs false
set_option linter.unusedVariables false
open Go.RowKit Go.WideShapes Go.ChangeShapes Go.ChangeAt Go.Deep
set_option maxRecDepth 100000 in
theorem open_lines {H : Type} {enc : TypeId × Value → H} {w : World} {base : Nat} {sp : Nat → Bool} {held : Bool} {r : Reach} {b0 : Nat} {v : Value} {d : DataW H} {ps : List MemPlace}
    (hv : Value.okWide Try.prog w r b0 22 v) (h : DataW.Trod enc Try.prog w base sp held 22 v d ps) :
    ∃ (a : Option Addr) (L : List LnM) (cap : Nat), v = .slice a L.length cap ∧ L.length ≤ cap ∧ L.length ≤ 9223372036854775807 ∧ LnIn w a L ∧ ∀ x ∈ L, LnOk x := by
  obtain ⟨L, ⟨a, cap, rfl, hm, hc, _, hat⟩, hty⟩ := open_rows [.int .i64, .int .i64] Try.underlying22 Try.underlying69 (by kernel_rfl) (by kernel_rfl) (by decide) rfl (fun j hj => by
    have : j = 0 ∨ j = 1 := by simp at hj; omega
    rcases this with rfl | rfl <;> rfl) hv h
  obtain ⟨M, rfl, hM⟩ := rows_typed lnC LnOk L (fun x hx => by
    obtain ⟨hl, hcell⟩ := hty x hx
    match x, (show x.length = 2 from hl), hcell with
    | [x0, x1], _, hcell =>
      obtain ⟨k, rfl, hk⟩ := hcell 0 _ _ rfl rfl
      obtain ⟨b, rfl, hb⟩ := hcell 1 _ _ rfl rfl
      exact ⟨⟨k, b⟩, rfl, wf_i64 hk, wf_i64 hb⟩)
  refine ⟨a, M, cap, by rw [List.length_map], by simpa using hc, by unfold maxLen at hm; simpa using hm, fun i hi => ?_, hM⟩
  obtain ⟨b, off, ha, hb, hcs⟩ := hat i (by simpa using hi)
  have e := getD_map lnC M ln0 i hi
  rw [e] at hcs
  refine ⟨b, off, ha, hb, ?_, ?_⟩
  · have := hcs 0 (show 0 < 2 by decide)
    rw [Nat.add_zero] at this
    exact this
  · have := hcs 1 (show 1 < 2 by decide)
    rw [← Nat.add_assoc] at this
    exact this
end Go.Proofs.Ytjjldphbflbbdaa
