/-
  Layer 25: acts that come in; what an act is added as.
-/
import Derived.Test.YtbnbfnlfgmlcgaaSale7
import Derived.Test.YtbnbfnlfgmlcgaaKitE
import Derived.Test.YtbnbfnlfgmlcgaaKitY
--import Derived.Test.Zdbg
namespace Go.Proofs.Ytbnbfnlfgmlcgaa
set_option linter.unusedSimpArgs false
set_option linter.unusedVariables false
open Go.RowKit Go.WideShapes Go.ChangeShapes Go.ChangeAt Go.Deep

structure ActT where
  k : Int
  s : Int
  r : Int
  a : Int
  c : Int
def actT0 : ActT := ⟨0, 0, 0, 0, 0⟩
def actTC (x : ActT) : List Value := [.int .u8 x.k, .int .i64 x.s, .int .i64 x.r, .int .i64 x.a, .int .i64 x.c]
def ActTOk (x : ActT) : Prop := (0 ≤ x.k ∧ x.k ≤ 255) ∧ inR x.s ∧ inR x.r ∧ inR x.a ∧ inR x.c
/-- a slice of acts that comes in -/
def ActTs (w : World) (a : Option Addr) (L : List ActT) : Prop := ∀ i, i < L.length → ∃ b off, a = some ⟨b, off, none⟩ ∧ b < w.heap.size ∧ w.cell? ⟨b, off + i * 5, none⟩ = some (.int .u8 (L.getD i actT0).k) ∧ w.cell? ⟨b, off + i * 5 + 1, none⟩ = some (.int .i64 (L.getD i actT0).s) ∧ w.cell? ⟨b, off + i * 5 + 2, none⟩ = some (.int .i64 (L.getD i actT0).r) ∧ w.cell? ⟨b, off + i * 5 + 3, none⟩ = some (.int .i64 (L.getD i actT0).a) ∧ w.cell? ⟨b, off + i * 5 + 4, none⟩ = some (.int .i64 (L.getD i actT0).c)
theorem ActTs.below {w w' : World} {a : Option Addr} {L : List ActT} (h : ActTs w a L) (hb : Below w.heap.size w w') : ActTs w' a L := fun i hi => by
  obtain ⟨b, off, h1, h2, h3, h4, h5, h6, h7⟩ := h i hi
  exact ⟨b, off, h1, Nat.lt_of_lt_of_le h2 hb.size, cell_keep h3 h2 hb, cell_keep h4 h2 hb, cell_keep h5 h2 hb, cell_keep h6 h2 hb, cell_keep h7 h2 hb⟩
def ActsT (w : World) (v : Value) : Prop := ∃ (a : Option Addr) (L : List ActT) (cap : Nat), v = .slice a L.length cap ∧ L.length ≤ cap ∧ L.length ≤ 9223372036854775807 ∧ ActTs w a L ∧ ∀ x ∈ L, ActTOk x
set_option maxRecDepth 100000 in
theorem open_actTs {H : Type} {enc : TypeId × Value → H} {w : World} {base : Nat} {sp : Nat → Bool} {held : Bool} {r : Reach} {b0 : Nat} {v : Value} {d : DataW H} {ps : List MemPlace}
    (hv : Value.okWide Try.prog w r b0 22 v) (h : DataW.Trod enc Try.prog w base sp held 22 v d ps) : ActsT w v := by
  obtain ⟨L, ⟨a, cap, rfl, hm, hc, _, hat⟩, hty⟩ := open_rows [.int .u8, .int .i64, .int .i64, .int .i64, .int .i64] Try.underlying22 Try.underlying29 (by kernel_rfl) (by kernel_rfl) (by decide) rfl (fun j hj => by
    have : j = 0 ∨ j = 1 ∨ j = 2 ∨ j = 3 ∨ j = 4 := by simp at hj; omega
    rcases this with rfl | rfl | rfl | rfl | rfl <;> rfl) hv h
  obtain ⟨M, rfl, hM⟩ := rows_typed actTC ActTOk L (fun x hx => by
    obtain ⟨hl, hcell⟩ := hty x hx
    match x, (show x.length = 5 from hl), hcell with
    | [x0, x1, x2, x3, x4], _, hcell =>
      obtain ⟨k, rfl, hk⟩ := hcell 0 _ _ rfl rfl
      obtain ⟨s, rfl, hs⟩ := hcell 1 _ _ rfl rfl
      obtain ⟨n, rfl, hn⟩ := hcell 2 _ _ rfl rfl
      obtain ⟨m, rfl, hm⟩ := hcell 3 _ _ rfl rfl
      obtain ⟨c, rfl, hc⟩ := hcell 4 _ _ rfl rfl
      exact ⟨⟨k, s, n, m, c⟩, rfl, wf_u8 hk, wf_i64 hs, wf_i64 hn, wf_i64 hm, wf_i64 hc⟩)
  refine ⟨a, M, cap, by rw [List.length_map], by simpa using hc, by unfold maxLen at hm; simpa using hm, fun i hi => ?_, hM⟩
  obtain ⟨b, off, ha, hb, hcs⟩ := hat i (by simpa using hi)
  have e := getD_map actTC M actT0 i hi
  rw [e] at hcs
  refine ⟨b, off, ha, hb, ?_, ?_, ?_, ?_, ?_⟩
  · have := hcs 0 (show 0 < 5 by decide)
    rw [Nat.add_zero] at this
    exact this
  · have := hcs 1 (show 1 < 5 by decide)
    rw [← Nat.add_assoc] at this
    exact this
  · have := hcs 2 (show 2 < 5 by decide)
    rw [← Nat.add_assoc] at this
    exact this
  · have := hcs 3 (show 3 < 5 by decide)
    rw [← Nat.add_assoc] at this
    exact this
  · have := hcs 4 (show 4 < 5 by decide)
    rw [← Nat.add_assoc] at this
    exact this
end Go.Proofs.Ytbnbfnlfgmlcgaa
