/-
  Layer 15's laws: numbers that were passed, in a map of the call's own.
-/
import Derived.Test.YtpgogdnjddeagaaVic6
--import Derived.Test.Zdbg
namespace Go.Proofs.Ytpgogdnjddeagaa
set_option linter.unusedSimpArgs false
set_option linter.unusedVariables false
open Go.RowKit Go.WideShapes Go.ChangeShapes Go.ChangeAt Go.Deep W

theorem Keyed_int : Go.Maps.Keyed Try.prog 3 := Go.Maps.int_keyed Try.underlying3
theorem key_int {a : Int} (h : (Lit.int .i64 a).wf = true) : keyOf Try.prog 3 (.int .i64 a) = some (.int .i64 a) := Go.Maps.keyOf_int_mk Try.underlying3 h
theorem zero_bool15 (w : World) : (zeroValue 4).run Try.prog w = .ok (.bool false) w := by kernel_rfl
def passF (ks : List Int) (l : Lit) : Option Value := match l with
  | .int .i64 a => if a ∈ ks then some (.bool true) else none
  | _ => none
theorem passF_nil : passF [] = fun _ => none := by funext l; unfold passF; split <;> simp
theorem passF_next (ks : List Int) (z : Int) : (fun l : Lit => if l.sameKey (.int .i64 z) = true then some (Value.bool true) else passF ks l) = passF (ks ++ [z]) := by
  funext l
  by_cases h : l.sameKey (.int .i64 z) = true
  · rw [if_pos h, WideAt.sameKey_eq h]
    simp [passF]
  · rw [if_neg h]
    unfold passF
    split
    · rename_i a
      have ha : a ≠ z := fun e => h (by rw [e]; exact WideAt.sameKey_self trivial)
      by_cases h2 : a ∈ ks
      · rw [if_pos h2, if_pos (by simp [h2])]
      · rw [if_neg h2, if_neg (by simp [h2, ha])]
    · rfl
theorem passF_at (ks : List Int) (a : Int) : (passF ks (.int .i64 a)).getD (.bool false) = .bool (decide (a ∈ ks)) := by
  unfold passF
  by_cases h : a ∈ ks <;> simp [h]
theorem LaidAt.only {W W' : World} {B a1 a2 a3 p q m q' o l r s t bm : Nat} {PL : List (Int × Int)} {nb : Nat} {S : Spots} {RL : List (Int × Int)} {LV : List Value} (h : LaidAt W B a1 a2 a3 p q m q' o l r s t PL nb S RL LV) (ho : Only bm W W') (hb : a3 < bm) : LaidAt W' B a1 a2 a3 p q m q' o l r s t PL nb S RL LV := by
  have h1 := h.ord1
  have h2 := h.ord2
  have h3 := h.ord3
  have hl := h.map.lt
  exact ⟨h.pool.only ho (by omega) (by omega), h.map.kept (ho.block _ hl.1 (by omega)) (ho.block _ hl.2.1 (by omega)) (ho.block _ hl.2.2.1 (by omega)) (ho.block _ hl.2.2.2 (by omega)), h.ref.only ho (by omega) (by omega) (by omega), (ho.block _ (heap_lt h.live) (by omega)).trans h.live, h1, h2, h3⟩
theorem NumsAt.only {W W' : World} {k : IntKind} {za : Option Addr} {n cap bm : Nat} {zs : List Int} (h : NumsAt W k (.slice za n cap) zs) (ho : Only bm W W') (hb : ∀ b off, za = some ⟨b, off, none⟩ → 0 < zs.length → b ≠ bm) : NumsAt W' k (.slice za n cap) zs := by
  rcases h with h | ⟨b, off, cap', e, hc, hm, hp, hi⟩ | h
  · exact .inl h
  · refine .inr (.inl ⟨b, off, cap', e, hc, hm, hp, fun i hil => ?_⟩)
    have h1 := hi i hil
    simp only [Value.slice.injEq] at e
    obtain ⟨rfl, -, -⟩ := e
    have hne := hb b off rfl hp
    have hlt := World.block_lt_of_cell? W _ h1
    rw [← h1]
    simp only [World.cell?, ho.block b hlt hne]
  · exact .inr (.inr h)
theorem nums_block {W : World} {k : IntKind} {za : Option Addr} {n cap : Nat} {zs : List Int} (h : NumsAt W k (.slice za n cap) zs) : ∀ b off, za = some ⟨b, off, none⟩ → 0 < zs.length → b < W.heap.size := fun b off e hp => by
  obtain ⟨a', cap', h1, -, h3⟩ := nums_at h
  obtain ⟨b', off', h4, h5, -⟩ := h3 0 hp
  simp only [Value.slice.injEq] at h1
  rw [← h1.1, e] at h4
  simp only [Option.some.injEq, Addr.mk.injEq] at h4
  omega
end Go.Proofs.Ytpgogdnjddeagaa
