/-
  Layer 24: a slice of numbers of the law's own that slides along its array; blocks of some types alone turn.
-/
import Derived.Test.YtmomjefbifoliaaKeys5
--import Derived.Test.Zdbg
namespace Go.Proofs.Ytmomjefbifoliaa
set_option linter.unusedSimpArgs false
set_option linter.unusedVariables false
open Go.RowKit Go.WideShapes Go.ChangeShapes Go.ChangeAt

/-- blocks of cells of other types are as they were -/
def Turns (Ts : List TypeId) (w w' : World) : Prop := ∀ (k : Nat) (c : Array Value) (t : TypeId) (fz : Nat × Nat), w.heap[k]? = some (.cells c t fz) → t ∉ Ts → w'.heap[k]? = some (.cells c t fz)
theorem Turns.of_below {Ts : List TypeId} {w w' : World} (h : Below w.heap.size w w') : Turns Ts w w' := fun k _ _ _ hk _ => (h.block k (heap_lt hk)).trans hk
theorem Turns.trans {Ts : List TypeId} {a b c : World} (h : Turns Ts a b) (k : Turns Ts b c) : Turns Ts a c := fun i x t fz hi ht => k i x t fz (h i x t fz hi ht) ht
theorem KeysAt.turns {Ts : List TypeId} {w w' : World} {p B lim : Nat} {L : List Ent} {v : Value} (h : KeysAt w p B lim L v) (ht : Turns Ts w w') (h1 : 58 ∉ Ts) (h2 : 37 ∉ Ts) : KeysAt w' p B lim L v := by
  refine ⟨ht _ _ _ _ h.head h1, ⟨h.owns.1, ?_⟩, h.base⟩
  rcases h.owns.2 with h3 | ⟨g, cap', cur, hv, hg, hh, h4⟩
  · exact .inl h3
  · exact .inr ⟨g, cap', cur, hv, hg, ht _ _ _ _ hh h2, h4⟩
theorem put_turns {p B lim : Nat} {L : List Ent} {v : Value} {w w' : World} (h : KeysAt w p B lim L v) (ho : OnlyL (p :: v.ownBlock.toList) w w') : Turns [58, 37] w w' := fun k c t fz hk ht => by
  refine (ho.block k (heap_lt hk) fun hm => ?_).trans hk
  rcases List.mem_cons.1 hm with rfl | hm
  · have e := h.head
    rw [hk] at e
    simp only [Option.some.injEq, Obj.cells.injEq] at e
    exact ht (by rw [e.2.1]; simp)
  · cases hv : v.ownBlock with
    | none => rw [hv] at hm; simp at hm
    | some g =>
      rw [hv] at hm
      simp at hm
      subst hm
      obtain ⟨c', fz', hc⟩ := Go.Lib.ownsRow_kind h.owns k hv
      rw [hk] at hc
      simp only [Option.some.injEq, Obj.cells.injEq] at hc
      exact ht (by rw [hc.2.1]; simp)

/-- a slice of numbers, from the base on, wherever it begins in its array -/
def WantAt (w : World) (B : Nat) (a : Option Addr) (c : Nat) (ks : List Int) : Prop :=
  (a = none ∧ c = 0 ∧ ks = []) ∨ ∃ (g o : Nat) (cur : Array Value), a = some ⟨g, o, none⟩ ∧ B ≤ g ∧ w.heap[g]? = some (.cells cur 29 (0, 0)) ∧ ks.length ≤ c ∧ c ≤ maxLen ∧ cur.size = o + c ∧ ∀ i, i < ks.length → cur[o + i]? = some (.int .u64 (ks.getD i 0))
theorem WantAt.turns {Ts : List TypeId} {w w' : World} {B : Nat} {a : Option Addr} {c : Nat} {ks : List Int} (h : WantAt w B a c ks) (ht : Turns Ts w w') (h1 : 29 ∉ Ts) : WantAt w' B a c ks := by
  rcases h with h | ⟨g, o, cur, h2, h3, h4, h5⟩
  · exact .inl h
  · exact .inr ⟨g, o, cur, h2, h3, ht _ _ _ _ h4 h1, h5⟩
theorem WantAt.cap {w : World} {B : Nat} {a : Option Addr} {c : Nat} {ks : List Int} (h : WantAt w B a c ks) : ks.length ≤ c ∧ c ≤ maxLen := by
  rcases h with ⟨_, rfl, rfl⟩ | ⟨g, o, cur, h2, h3, h4, h5, h6, h7⟩
  · exact ⟨Nat.le_refl _, Nat.zero_le _⟩
  · exact ⟨h5, h6⟩
theorem WantAt.at {w : World} {B : Nat} {a : Option Addr} {c : Nat} {ks : List Int} (h : WantAt w B a c ks) (i : Nat) (hi : i < ks.length) : ∃ g o, a = some ⟨g, o, none⟩ ∧ g < w.heap.size ∧ w.cell? ⟨g, o + i, none⟩ = some (.int .u64 (ks.getD i 0)) := by
  rcases h with ⟨_, _, rfl⟩ | ⟨g, o, cur, h2, h3, h4, h5, h6, h7, h8⟩
  · simp at hi
  · exact ⟨g, o, h2, heap_lt h4, (cell_of_block h4 _).trans (h8 i hi)⟩
/-- its first ones go -/
theorem WantAt.drop {w : World} {B g o : Nat} {c : Nat} {ks : List Int} (h : WantAt w B (some ⟨g, o, none⟩) c ks) (d : Nat) (hd : d ≤ ks.length) : WantAt w B (some ⟨g, o + d, none⟩) (c - d) (ks.drop d) := by
  rcases h with ⟨h1, _⟩ | ⟨g', o', cur, h2, h3, h4, h5, h6, h7, h8⟩
  · cases h1
  · simp only [Option.some.injEq, Addr.mk.injEq, and_true] at h2
    obtain ⟨rfl, rfl⟩ := h2
    refine .inr ⟨g, o + d, cur, rfl, h3, h4, by simp; omega, by omega, by omega, fun i hi => ?_⟩
    have h9 := h8 (d + i) (by simp at hi; omega)
    rw [← Nat.add_assoc] at h9
    rw [h9]
    simp [List.getD]
/-- one more -/
theorem want_append (t ty : TypeId) (ht : Try.prog.underlying t = some (.slice 29)) (w : World) (B : Nat) (hB : B ≤ w.heap.size) (a : Option Addr) (c : Nat) (ks : List Int) (hk : ks.length ≤ 1000) (h : WantAt w B a c ks) (x : Int) (xb : Nat) (hx : w.heap[xb]? = some (.cells #[.int .u64 x] 29 (0, 0))) (hxa : ∀ g o, a = some ⟨g, o, none⟩ → g ≠ xb) :
    ∃ (g o c' : Nat) (w' : World), (Builtin.append_ #[t, t] ty #[.slice a ks.length c, .slice (some ⟨xb, 0, none⟩) 1 1]).run Try.prog w = .ok (.slice (some ⟨g, o, none⟩) (ks.length + 1) c') w' ∧ WantAt w' B (some ⟨g, o, none⟩) c' (ks ++ [x]) ∧ Turns [29] w w' ∧ Below B w w' := by
  obtain ⟨i0, hi, hz0, hz1, hz2⟩ := info_parts (show (Try.prog.info? 29).map (fun i => (i.zero, i.size, i.bytes)) = some (some (.int .u64 0), 1, 8) by kernel_rfl)
  have hnew := cells_new (l := [.int .u64 x]) hx
  have hone : ∀ u ∈ [Value.int .u64 x], u.oneCell' = true := by intro u hu; simp at hu; subst hu; rfl
  have hget : ∀ i, i < (ks ++ [x]).length → (ks ++ [x]).getD i 0 = if i < ks.length then ks.getD i 0 else x := by
    intro i hi
    by_cases h1 : i < ks.length
    · rw [if_pos h1]; simp [List.getD, List.getElem?_append_left h1]
    · have h2 : i = ks.length := by simp at hi; omega
      subst h2
      rw [if_neg (by omega)]; simp [List.getD]
  have own_want : ∀ (w' : World) (v' : Value), w'.ownsRow B 29 1 v' (ks.length + 1) (ks.map (Value.int .u64) ++ [.int .u64 x]) → ∃ g c', v' = .slice (some ⟨g, 0, none⟩) (ks.length + 1) c' ∧ WantAt w' B (some ⟨g, 0, none⟩) c' (ks ++ [x]) := by
    intro w' v' ho
    rcases ho.2 with ⟨_, h0⟩ | ⟨g, cap, cur, rfl, hb, hg, hn, hm, hs, htk⟩
    · omega
    · refine ⟨g, cap, rfl, .inr ⟨g, 0, cur, rfl, hb, hg, by simpa using hn, hm, by omega, fun i hi => ?_⟩⟩
      have hil : i < ks.length + 1 := by simpa using hi
      have e := congrArg (fun l : List Value => l[i]?) htk
      simp only [Nat.mul_one] at e
      rw [List.getElem?_take_of_lt hil] at e
      rw [Nat.zero_add, ← Array.getElem?_toList, e, show ks.map (Value.int .u64) ++ [.int .u64 x] = (ks ++ [x]).map (Value.int .u64) by simp, List.getElem?_map, List.getElem?_eq_getElem hi]
      simp [List.getD, List.getElem?_eq_getElem hi]
  rcases h with ⟨rfl, rfl, rfl⟩ | ⟨g, o, cur, rfl, hg, hh, hn, hm, hs, hc⟩
  · obtain ⟨v', w', hr, ho, hgr, -⟩ := run_append_own (P := Try.prog) w B t ty 29 i0 (.int .u64 0) 1 8 ht hi hz0 hz1 hz2 rfl (by decide) (.slice none 0 0) 0 [] (World.ownsRow_nil _ _ _ _) ⟨xb, 0, none⟩ 1 1 [.int .u64 x] rfl hnew hone (by unfold maxLen; omega) (by omega) hB
    obtain ⟨g, c', rfl, hw⟩ := own_want w' v' (by simpa using ho)
    exact ⟨g, 0, c', w', hr, hw, fun k _ _ _ hk _ => (hgr.block k (heap_lt hk) (by simp [Value.ownBlock])).trans hk, ⟨hgr.os, hgr.tape, hgr.output, hgr.size, fun k hk => hgr.block k (by omega) (by simp [Value.ownBlock])⟩⟩
  · by_cases hr : ks.length + 1 ≤ c
    · have hcell : w.cell? ⟨g, o + ks.length, none⟩ = cur[o + ks.length]? := cell_of_block hh _
      have hlt : o + ks.length < cur.size := by omega
      have hrun := run_append_room_cells (P := Try.prog) w t ty 29 i0 ht hi g o ks.length c ⟨xb, 0, none⟩ 1 1 [.int .u64 x] (by rw [hz1]; rfl) hnew hone hr (fun j hj => by
        simp at hj
        subst hj
        rw [hz1, Nat.mul_one, Nat.add_zero, hcell, Array.getElem?_eq_getElem hlt]
        rfl) (fun j hj => frozen_of_block hh _)
      rw [hz1, Nat.mul_one] at hrun
      refine ⟨g, o, c, w.setCell ⟨g, o + ks.length, none⟩ (.int .u64 x), hrun, .inr ⟨g, o, cur.setIfInBounds (o + ks.length) (.int .u64 x), rfl, hg, block_setCell hh _ _, by simpa using hr, hm, by simpa using hs, fun i hi => ?_⟩, fun k c t fz hk ht => ?_, ?_⟩
      · rw [hget i hi]
        by_cases h1 : i < ks.length
        · rw [if_pos h1, Array.getElem?_setIfInBounds, if_neg (by omega)]
          exact hc i h1
        · have h2 : i = ks.length := by simp at hi; omega
          subst h2
          rw [if_neg h1, Array.getElem?_setIfInBounds, if_pos rfl, if_pos hlt]
      · have hne : g ≠ k := fun e => by
          subst e
          rw [hh] at hk
          simp only [Option.some.injEq, Obj.cells.injEq] at hk
          exact ht (by rw [hk.2.1]; simp)
        rw [block_setCell_other hne]
        exact hk
      · exact (Below.refl B w).setCell hg _
    · obtain ⟨v', w', hr2, ho, hgr⟩ := run_append_arg_grows (P := Try.prog) w t ty 29 i0 (.int .u64 0) 1 8 ht hi hz0 hz1 hz2 rfl (by decide) ⟨g, o, none⟩ ks.length c (ks.map (Value.int .u64)) (by simp) (fun j u hj => by
        have hjl : j < ks.length := by have := (List.getElem?_eq_some_iff.1 hj).1; simpa using this
        rw [Go.WideShapes.add_plain, cell_of_block hh, hc j hjl, ← hj, List.getElem?_map, List.getElem?_eq_getElem hjl]
        simp [List.getD, hjl]) ⟨xb, 0, none⟩ 1 1 [.int .u64 x] rfl hnew (by omega) (by unfold maxLen; omega) (by omega)
      have ho2 : w'.ownsRow B 29 1 v' (ks.length + 1) (ks.map (Value.int .u64) ++ [.int .u64 x]) := by
        refine ⟨ho.1, ?_⟩
        rcases ho.2 with h3 | ⟨g, cap', cur, hv, hgb, h4⟩
        · exact .inl h3
        · exact .inr ⟨g, cap', cur, hv, Nat.le_trans hB hgb, h4⟩
      obtain ⟨g', c', rfl, hw⟩ := own_want w' v' ho2
      exact ⟨g', 0, c', w', hr2, hw, fun k _ _ _ hk _ => (hgr.block k (heap_lt hk) (by simp)).trans hk, ⟨hgr.os, hgr.tape, hgr.output, hgr.size, fun k hk => hgr.block k (by omega) (by simp)⟩⟩
end Go.Proofs.Ytmomjefbifoliaa
