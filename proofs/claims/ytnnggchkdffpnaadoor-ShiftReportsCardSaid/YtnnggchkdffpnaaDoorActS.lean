/-
  Layer 26: acts that come in.
-/
import Derived.Test.YtnnggchkdffpnaaDoorShG3
import Derived.Test.YtnnggchkdffpnaaDoorKitE
import Derived.Test.YtnnggchkdffpnaaDoorKitY
import Derived.Test.YtnnggchkdffpnaaDoorKitV
--import Derived.Test.Zdbg
namespace Go.Proofs.YtnnggchkdffpnaaDoor
set_option linter.unusedSimpArgs false
set_option linter.unusedVariables false
open Go.RowKit Go.WideShapes Go.ChangeShapes Go.ChangeAt Go.Deep

structure ActS where
  d : Int
  k : Int
  a : Int
def actS0 : ActS := ⟨0, 0, 0⟩
def actSC (x : ActS) : List Value := [.int .i64 x.d, .int .u8 x.k, .int .i64 x.a]
def ActSOk (x : ActS) : Prop := inR x.d ∧ (0 ≤ x.k ∧ x.k ≤ 255) ∧ inR x.a
/-- a slice of acts that comes in -/
def ActSs (w : World) (a : Option Addr) (L : List ActS) : Prop := ∀ i, i < L.length → ∃ b off, a = some ⟨b, off, none⟩ ∧ b < w.heap.size ∧ w.cell? ⟨b, off + i * 3, none⟩ = some (.int .i64 (L.getD i actS0).d) ∧ w.cell? ⟨b, off + i * 3 + 1, none⟩ = some (.int .u8 (L.getD i actS0).k) ∧ w.cell? ⟨b, off + i * 3 + 2, none⟩ = some (.int .i64 (L.getD i actS0).a)
theorem ActSs.below {w w' : World} {a : Option Addr} {L : List ActS} (h : ActSs w a L) (hb : Below w.heap.size w w') : ActSs w' a L := fun i hi => by
  obtain ⟨b, off, h1, h2, h3, h4, h5⟩ := h i hi
  exact ⟨b, off, h1, Nat.lt_of_lt_of_le h2 hb.size, cell_keep h3 h2 hb, cell_keep h4 h2 hb, cell_keep h5 h2 hb⟩
def ActsS (w : World) (v : Value) : Prop := ∃ (a : Option Addr) (L : List ActS) (cap : Nat), v = .slice a L.length cap ∧ L.length ≤ cap ∧ L.length ≤ 9223372036854775807 ∧ ActSs w a L ∧ ∀ x ∈ L, ActSOk x
set_option maxRecDepth 100000 in
theorem open_actSs {H : Type} {enc : TypeId × Value → H} {w : World} {base : Nat} {sp : Nat → Bool} {held : Bool} {r : Reach} {b0 : Nat} {v : Value} {d : DataW H} {ps : List MemPlace}
    (hv : Value.okWide Tryd.prog w r b0 22 v) (h : DataW.Trod enc Tryd.prog w base sp held 22 v d ps) : ActsS w v := by
  obtain ⟨L, ⟨a, cap, rfl, hm, hc, _, hat⟩, hty⟩ := open_rows [.int .i64, .int .u8, .int .i64] Tryd.underlying22 Tryd.underlying29 (by kernel_rfl) (by kernel_rfl) (by decide) rfl (fun j hj => by
    have : j = 0 ∨ j = 1 ∨ j = 2 := by simp at hj; omega
    rcases this with rfl | rfl | rfl <;> rfl) hv h
  obtain ⟨M, rfl, hM⟩ := rows_typed actSC ActSOk L (fun x hx => by
    obtain ⟨hl, hcell⟩ := hty x hx
    match x, (show x.length = 3 from hl), hcell with
    | [x0, x1, x2], _, hcell =>
      obtain ⟨k, rfl, hk⟩ := hcell 0 _ _ rfl rfl
      obtain ⟨s, rfl, hs⟩ := hcell 1 _ _ rfl rfl
      obtain ⟨n, rfl, hn⟩ := hcell 2 _ _ rfl rfl
      exact ⟨⟨k, s, n⟩, rfl, wf_i64 hk, wf_u8 hs, wf_i64 hn⟩)
  refine ⟨a, M, cap, by rw [List.length_map], by simpa using hc, by unfold maxLen at hm; simpa using hm, fun i hi => ?_, hM⟩
  obtain ⟨b, off, ha, hb, hcs⟩ := hat i (by simpa using hi)
  have e := getD_map actSC M actS0 i hi
  rw [e] at hcs
  refine ⟨b, off, ha, hb, ?_, ?_, ?_⟩
  · have := hcs 0 (show 0 < 3 by decide)
    rw [Nat.add_zero] at this
    exact this
  · have := hcs 1 (show 1 < 3 by decide)
    rw [← Nat.add_assoc] at this
    exact this
  · have := hcs 2 (show 2 < 3 by decide)
    rw [← Nat.add_assoc] at this
    exact this
end Go.Proofs.YtnnggchkdffpnaaDoor
