/-
  Layer 26: shifts as values: plain.
-/
import Derived.Test.YtnnggchkdffpnaaDoorCents
import Derived.Test.YtnnggchkdffpnaaDoorKitF
import Derived.Test.YtnnggchkdffpnaaDoorKitW
namespace Go.Proofs.YtnnggchkdffpnaaDoor
set_option linter.unusedSimpArgs false
set_option linter.unusedVariables false
open Go.RowKit
structure TotM where
  c : Int
  s : Int
  v : Int
  r : Int
  i : Int
  o : Int
deriving DecidableEq
def tot0 : TotM := ⟨0, 0, 0, 0, 0, 0⟩
def totC (t : TotM) : List Value := [.int .i64 t.c, .int .i64 t.s, .int .i64 t.v, .int .i64 t.r, .int .i64 t.i, .int .i64 t.o]
theorem totC_length (t : TotM) : (totC t).length = 6 := rfl
theorem totsC_length (L : List TotM) : (L.flatMap totC).length = L.length * 6 := flat_length totC 6 totC_length L
theorem totC_one (t : TotM) : ∀ u ∈ totC t, u.oneCell' = true := by
  intro u hu
  simp [totC] at hu
  rcases hu with rfl | rfl | rfl | rfl | rfl | rfl <;> rfl
theorem totsC_one (L : List TotM) : ∀ u ∈ L.flatMap totC, u.oneCell' = true := by
  intro u hu
  obtain ⟨x, -, h⟩ := List.mem_flatMap.1 hu
  exact totC_one x u h
def totV (t : TotM) : Value := .agg #[.int .i64 t.c, .int .i64 t.s, .int .i64 t.v, .int .i64 t.r, .int .i64 t.i, .int .i64 t.o]
def sumOk (x : Int) : Prop := 0 ≤ x ∧ x ≤ 9223372036854775807
structure TotOk (t : TotM) : Prop where
  c : 0 ≤ t.c ∧ t.c ≤ 4294967295
  s : sumOk t.s
  v : sumOk t.v
  r : sumOk t.r
  i : sumOk t.i
  o : sumOk t.o
theorem tot0_ok : TotOk tot0 := by constructor <;> (try unfold sumOk) <;> decide
/-- shifts as a value -/
structure ShM where
  keep : Int
  next : Int
  op : Bool
  now : TotM
  L : List TotM
structure ShOk (M : ShM) : Prop where
  kp : 1 ≤ M.keep ∧ M.keep ≤ 64
  nx : 1 ≤ M.next ∧ M.next ≤ 4294967296
  few : (M.L.length : Int) ≤ M.keep
  low : (M.L.length : Int) + (if M.op = true then 1 else 0) ≤ M.next - 1
  now : TotOk M.now
  L : ∀ t ∈ M.L, TotOk t
theorem ShOk.opn {M : ShM} (h : ShOk M) (ho : M.op = true) : 2 ≤ M.next := by have := h.low; rw [if_pos ho] at this; omega
def shSum (t : TotM) (k : Int) : Int := if k = 1 then t.s else if k = 2 then t.v else if k = 3 then t.r else if k = 4 then t.i else t.o
def shAddT (t : TotM) (k am : Int) : TotM := if k = 1 then ⟨t.c + 1, t.s + am, t.v, t.r, t.i, t.o⟩ else if k = 2 then ⟨t.c + 1, t.s, t.v + am, t.r, t.i, t.o⟩ else if k = 3 then ⟨t.c + 1, t.s, t.v, t.r + am, t.i, t.o⟩ else if k = 4 then ⟨t.c + 1, t.s, t.v, t.r, t.i + am, t.o⟩ else if k = 5 then ⟨t.c + 1, t.s, t.v, t.r, t.i, t.o + am⟩ else ⟨t.c + 1, t.s, t.v, t.r, t.i, t.o⟩
def shAddE (M : ShM) (k am : Int) : Int := if k < 1 ∨ 6 < k ∨ am < 0 then 2 else if M.op = false then 20 else if M.now.c = 4294967295 then 6 else if k ≤ 5 ∧ 9223372036854775807 < shSum M.now k + am then 6 else 0
def shAddM (M : ShM) (k am : Int) : ShM := if shAddE M k am = 0 then { M with now := shAddT M.now k am } else M
def shStartE (M : ShM) : Int := if M.op = true then 20 else if 4294967295 < M.next then 7 else 0
def shStartN (M : ShM) : Int := if shStartE M = 0 then M.next else 0
def shStartM (M : ShM) : ShM := if shStartE M = 0 then { M with op := true, now := tot0, next := M.next + 1 } else M
def shEndE (M : ShM) : Int := if M.op = true then 0 else 20
def shEndN (M : ShM) : Int := if M.op = true then M.next - 1 else 0
def shEndT (M : ShM) : TotM := if M.op = true then M.now else tot0
def shEndM (M : ShM) : ShM := if M.op = true then { M with op := false, now := tot0, L := (M.L ++ [M.now]).drop (M.L.length + 1 - M.keep.toNat) } else M
def shOpen (M : ShM) : Int := if M.op = true then M.next - 1 else 0
def shLast (M : ShM) : Int := if M.op = true then M.next - 1 else M.next
def shTot (M : ShM) (n : Int) : Option TotM := if M.op = true ∧ n = M.next - 1 then some M.now else if shLast M ≤ n ∨ n < shLast M - (M.L.length : Int) then none else some (M.L.getD ((M.L.length : Int) - (shLast M - n)).toNat tot0)
theorem shAdd_parts {M : ShM} {k am : Int} (h : shAddE M k am = 0) : (1 ≤ k ∧ k ≤ 6) ∧ 0 ≤ am ∧ M.op = true ∧ M.now.c ≠ 4294967295 ∧ (k ≤ 5 → shSum M.now k + am ≤ 9223372036854775807) := by
  unfold shAddE at h
  split at h
  · cases h
  · split at h
    · cases h
    · split at h
      · cases h
      · split at h
        · cases h
        · next h1 h2 h3 h4 =>
          refine ⟨by omega, by omega, by simpa using h2, h3, fun hk => by omega⟩
theorem shAddT_ok {t : TotM} {k am : Int} (ht : TotOk t) (hk : 1 ≤ k ∧ k ≤ 6) (h0 : 0 ≤ am) (hc : t.c ≠ 4294967295) (hs : k ≤ 5 → shSum t k + am ≤ 9223372036854775807) : TotOk (shAddT t k am) := by
  obtain ⟨hc1, h1, h2, h3, h4, h5⟩ := ht
  unfold sumOk at h1 h2 h3 h4 h5
  unfold shAddT
  unfold shSum at hs
  have hcc : 0 ≤ t.c + 1 ∧ t.c + 1 ≤ 4294967295 := by omega
  by_cases k1 : k = 1
  · rw [if_pos k1]
    exact ⟨hcc, (show sumOk _ from ⟨by have := h1; dsimp only; omega, by have := hs (by omega); rw [if_pos k1] at this; dsimp only; omega⟩), h2, h3, h4, h5⟩
  by_cases k2 : k = 2
  · rw [if_neg k1, if_pos k2]
    exact ⟨hcc, h1, (show sumOk _ from ⟨by have := h2; dsimp only; omega, by have := hs (by omega); rw [if_neg k1, if_pos k2] at this; dsimp only; omega⟩), h3, h4, h5⟩
  by_cases k3 : k = 3
  · rw [if_neg k1, if_neg k2, if_pos k3]
    exact ⟨hcc, h1, h2, (show sumOk _ from ⟨by have := h3; dsimp only; omega, by have := hs (by omega); rw [if_neg k1, if_neg k2, if_pos k3] at this; dsimp only; omega⟩), h4, h5⟩
  by_cases k4 : k = 4
  · rw [if_neg k1, if_neg k2, if_neg k3, if_pos k4]
    exact ⟨hcc, h1, h2, h3, (show sumOk _ from ⟨by have := h4; dsimp only; omega, by have := hs (by omega); rw [if_neg k1, if_neg k2, if_neg k3, if_pos k4] at this; dsimp only; omega⟩), h5⟩
  by_cases k5 : k = 5
  · rw [if_neg k1, if_neg k2, if_neg k3, if_neg k4, if_pos k5]
    exact ⟨hcc, h1, h2, h3, h4, (show sumOk _ from ⟨by have := h5; dsimp only; omega, by have := hs (by omega); rw [if_neg k1, if_neg k2, if_neg k3, if_neg k4] at this; dsimp only; omega⟩)⟩
  rw [if_neg k1, if_neg k2, if_neg k3, if_neg k4, if_neg k5]
  exact ⟨hcc, h1, h2, h3, h4, h5⟩
theorem shAdd_ok {M : ShM} {k am : Int} (h : ShOk M) : ShOk (shAddM M k am) := by
  unfold shAddM
  split
  · next he =>
    obtain ⟨p1, p2, p3, p4, p5⟩ := shAdd_parts he
    exact ⟨h.kp, h.nx, h.few, h.low, shAddT_ok h.now p1 p2 p4 p5, h.L⟩
  · exact h
theorem shStart_ok {M : ShM} (h : ShOk M) : ShOk (shStartM M) := by
  unfold shStartM
  split
  · next he =>
    unfold shStartE at he
    split at he
    · cases he
    · next h1 =>
      split at he
      · cases he
      · next h2 =>
        have hl := h.low
        rw [if_neg h1] at hl
        have := h.nx
        refine ⟨h.kp, by dsimp only; omega, h.few, by dsimp only; rw [if_pos rfl]; omega, tot0_ok, h.L⟩
  · exact h
theorem shEnd_ok {M : ShM} (h : ShOk M) : ShOk (shEndM M) := by
  unfold shEndM
  split
  · next ho =>
    have hl := h.low
    rw [if_pos ho] at hl
    have hk := h.kp
    have hf := h.few
    refine ⟨h.kp, h.nx, ?_, ?_, tot0_ok, fun t ht => ?_⟩
    · dsimp only; rw [List.length_drop, List.length_append, List.length_singleton]; omega
    · dsimp only; rw [List.length_drop, List.length_append, List.length_singleton, if_neg (by decide)]; omega
    · rcases List.mem_append.1 (List.mem_of_mem_drop ht) with h1 | h1
      · exact h.L t h1
      · rw [List.mem_singleton.1 h1]; exact h.now
  · exact h
theorem shSum_ok {t : TotM} (h : TotOk t) (k : Int) : sumOk (shSum t k) := by
  unfold shSum
  split
  · exact h.s
  · split
    · exact h.v
    · split
      · exact h.r
      · split
        · exact h.i
        · exact h.o
theorem shTot_ok {M : ShM} (h : ShOk M) {n : Int} {t : TotM} (ht : shTot M n = some t) : TotOk t := by
  unfold shTot at ht
  split at ht
  · cases ht; exact h.now
  · split at ht
    · cases ht
    · next h1 =>
      cases ht
      have hi : ((M.L.length : Int) - (shLast M - n)).toNat < M.L.length := by omega
      exact h.L _ (by simp [List.getD, hi])
end Go.Proofs.YtnnggchkdffpnaaDoor
