/-
  Layer 26: acts that come in; a map of totals.
-/
import Derived.Test.YtfdgfeohmkdnoaaMShK
import Derived.Test.YtfdgfeohmkdnoaaShG3
import Derived.Test.YtfdgfeohmkdnoaaShG4
import Derived.Test.YtfdgfeohmkdnoaaKitE
import Derived.Test.YtfdgfeohmkdnoaaKitY
import Derived.Test.YtfdgfeohmkdnoaaKitX
import Derived.Test.YtfdgfeohmkdnoaaKitV
--import Derived.Test.Zdbg
namespace Go.Proofs.Ytfdgfeohmkdnoaa
set_option linter.unusedSimpArgs false
set_option linter.unusedVariables false
open Go.RowKit Go.WideShapes Go.ChangeShapes Go.ChangeAt Go.Deep

structure ActS where
  d : Int
  k : Int
  a : Int
def actS0 : ActS := ⟨0, 0, 0⟩
def actSC (x : ActS) : List Value := [.int .i64 x.d, .int .u8 x.k, .int .i64 x.a]
def ActSOk (x : ActS) : Prop := inR x.d ∧ (0 ≤ x.k ∧ x.k ≤ 255) ∧ inR x.a
/-- a slice of acts that comes in -/
def ActSs (w : World) (a : Option Addr) (L : List ActS) : Prop := ∀ i, i < L.length → ∃ b off, a = some ⟨b, off, none⟩ ∧ b < w.heap.size ∧ w.cell? ⟨b, off + i * 3, none⟩ = some (.int .i64 (L.getD i actS0).d) ∧ w.cell? ⟨b, off + i * 3 + 1, none⟩ = some (.int .u8 (L.getD i actS0).k) ∧ w.cell? ⟨b, off + i * 3 + 2, none⟩ = some (.int .i64 (L.getD i actS0).a)
theorem ActSs.below {w w' : World} {a : Option Addr} {L : List ActS} (h : ActSs w a L) (hb : Below w.heap.size w w') : ActSs w' a L := fun i hi => by
  obtain ⟨b, off, h1, h2, h3, h4, h5⟩ := h i hi
  exact ⟨b, off, h1, Nat.lt_of_lt_of_le h2 hb.size, cell_keep h3 h2 hb, cell_keep h4 h2 hb, cell_keep h5 h2 hb⟩
def ActsS (w : World) (v : Value) : Prop := ∃ (a : Option Addr) (L : List ActS) (cap : Nat), v = .slice a L.length cap ∧ L.length ≤ cap ∧ L.length ≤ 9223372036854775807 ∧ ActSs w a L ∧ ∀ x ∈ L, ActSOk x
set_option maxRecDepth 100000 in
theorem open_actSs {H : Type} {enc : TypeId × Value → H} {w : World} {base : Nat} {sp : Nat → Bool} {held : Bool} {r : Reach} {b0 : Nat} {v : Value} {d : DataW H} {ps : List MemPlace}
    (hv : Value.okWide Try.prog w r b0 22 v) (h : DataW.Trod enc Try.prog w base sp held 22 v d ps) : ActsS w v := by
  obtain ⟨L, ⟨a, cap, rfl, hm, hc, _, hat⟩, hty⟩ := open_rows [.int .i64, .int .u8, .int .i64] Try.underlying22 Try.underlying35 (by kernel_rfl) (by kernel_rfl) (by decide) rfl (fun j hj => by
    have : j = 0 ∨ j = 1 ∨ j = 2 := by simp at hj; omega
    rcases this with rfl | rfl | rfl <;> rfl) hv h
  obtain ⟨M, rfl, hM⟩ := rows_typed actSC ActSOk L (fun x hx => by
    obtain ⟨hl, hcell⟩ := hty x hx
    match x, (show x.length = 3 from hl), hcell with
    | [x0, x1, x2], _, hcell =>
      obtain ⟨k, rfl, hk⟩ := hcell 0 _ _ rfl rfl
      obtain ⟨s, rfl, hs⟩ := hcell 1 _ _ rfl rfl
      obtain ⟨n, rfl, hn⟩ := hcell 2 _ _ rfl rfl
      exact ⟨⟨k, s, n⟩, rfl, wf_i64 hk, wf_u8 hs, wf_i64 hn⟩)
  refine ⟨a, M, cap, by rw [List.length_map], by simpa using hc, by unfold maxLen at hm; simpa using hm, fun i hi => ?_, hM⟩
  obtain ⟨b, off, ha, hb, hcs⟩ := hat i (by simpa using hi)
  have e := getD_map actSC M actS0 i hi
  rw [e] at hcs
  refine ⟨b, off, ha, hb, ?_, ?_, ?_⟩
  · have := hcs 0 (show 0 < 3 by decide)
    rw [Nat.add_zero] at this
    exact this
  · have := hcs 1 (show 1 < 3 by decide)
    rw [← Nat.add_assoc] at this
    exact this
  · have := hcs 2 (show 2 < 3 by decide)
    rw [← Nat.add_assoc] at this
    exact this
theorem wf_num {a : Int} (h : inR a) : (Lit.int .i64 a).wf = true := by
  obtain ⟨h2, h3⟩ := h
  simp [Lit.wf, IntKind.min, IntKind.max, IntKind.signed, IntKind.bits]
  exact ⟨h2, h3⟩
theorem Keyed_num : Go.Maps.Keyed Try.prog 3 := Go.Maps.int_keyed Try.underlying3
theorem key_num {a : Int} (h : inR a) : keyOf Try.prog 3 (.int .i64 a) = some (.int .i64 a) := Go.Maps.keyOf_int_mk Try.underlying3 (wf_num h)
theorem same_num (j a : Int) : (Lit.int .i64 j).sameKey (.int .i64 a) = true ↔ j = a := by simp [Lit.sameKey]
theorem MapIs.keepsT {Ts : List TypeId} {w w' : World} {P : Program} {k : TypeId} {b n c : Nat} {f : Lit → Option Value} (h : MapIs w P k b n c f) (hk : KeepsT Ts w w') : MapIs w' P k b n c f := by
  refine h.kept ?_
  obtain ⟨D, ⟨es, clock, h1, h2⟩, h3⟩ := h
  rw [h1]
  exact hk _ _ h1 fun c t fz e => by cases e
/-- a map of the closed ones' totals -/
def ClAt (w : World) (pm N : Nat) (C : List TotM) : Prop := ∃ f n, n ≤ N ∧ MapIs w Try.prog 3 pm n C.length f ∧ ∀ x : Int, inR x → f (.int .i64 x) = clM C x
theorem ClAt.keepsT {Ts : List TypeId} {w w' : World} {pm N : Nat} {C : List TotM} (h : ClAt w pm N C) (hk : KeepsT Ts w w') : ClAt w' pm N C := by
  obtain ⟨f, n, h1, h2, h3⟩ := h
  exact ⟨f, n, h1, h2.keepsT hk, h3⟩
theorem ClAt.below {w w' : World} {pm N : Nat} {C : List TotM} (h : ClAt w pm N C) (hb : Below w.heap.size w w') : ClAt w' pm N C := h.keepsT (Ts := []) (KeepsT.of_below hb)
theorem ClAt.mono {w : World} {pm N : Nat} {C : List TotM} (h : ClAt w pm N C) : ClAt w pm (N + 1) C := by
  obtain ⟨f, n, h1, h2, h3⟩ := h
  exact ⟨f, n, by omega, h2, h3⟩
theorem ClAt.only {w w' : World} {pm N r : Nat} {C : List TotM} (h : ClAt w pm N C) (ho : Only r w w') (hr : pm ≠ r) : ClAt w' pm N C := by
  obtain ⟨f, n, h1, h2, h3⟩ := h
  exact ⟨f, n, h1, h2.only ho hr, h3⟩
theorem ClAt.lt {w : World} {pm N : Nat} {C : List TotM} (h : ClAt w pm N C) : pm < w.heap.size := by
  obtain ⟨f, n, h1, h2, h3⟩ := h
  exact h2.lt
/-- shifts stay where a map turns -/
theorem ShIs.only {w w' : World} {B p r : Nat} {M : ShM} {v : Value} (h : ShIs w B p M v) (ho : Only r w w') (hr : ∀ d t fz, w.heap[r]? ≠ some (.cells d t fz)) : ShIs w' B p M v :=
  ⟨(ho.block p h.lt (fun e => hr _ _ _ (e ▸ h.head))).trans h.head, owns_only h.row ho hr, h.low, h.ok⟩
end Go.Proofs.Ytfdgfeohmkdnoaa
