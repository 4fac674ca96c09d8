/-
  General lemmas of this project's own: what stays where a row grows, or a block turns.
-/
import Derived.Test.YtnnggchkdffpnaaDoorKitP
namespace Go.Proofs.YtnnggchkdffpnaaDoor
set_option linter.unusedSimpArgs false
set_option linter.unusedVariables false
open Go.RowKit
theorem owns_still {w w' : World} {B e e' n n' m m' B' : Nat} {v v' : Value} {xs xs' : List Value} (h : w.ownsRow B e m v n xs) (h' : w.ownsRow B' e' m' v' n' xs') (he : e ≠ e') (hg : w.grownBy w' v'.ownBlock) : w'.ownsRow B e m v n xs := by
  refine ⟨h.1, ?_⟩
  rcases h.2 with h3 | ⟨g, cap', cur, hv, hb, hh, h4⟩
  · exact .inl h3
  · refine .inr ⟨g, cap', cur, hv, hb, ?_, h4⟩
    rw [hg.block g (heap_lt hh) ?_]
    · exact hh
    · intro hq
      obtain ⟨c, fz, hc⟩ := Go.Lib.ownsRow_kind h' g hq.symm
      rw [hh] at hc
      simp only [Option.some.injEq, Obj.cells.injEq] at hc
      exact he hc.2.1
/-- a block of another type stays where a row grows -/
theorem grown_stays {w w' : World} {B e m n k : Nat} {v : Value} {xs : List Value} {c : Array Value} {t : TypeId} {fz : Nat × Nat} (h : w.ownsRow B e m v n xs) (hg : w.grownBy w' v.ownBlock) (hk : w.heap[k]? = some (.cells c t fz)) (ht : t ≠ e) : w'.heap[k]? = some (.cells c t fz) := by
  rw [hg.block k (heap_lt hk) ?_]
  · exact hk
  · intro hq
    obtain ⟨c', fz', hc⟩ := Go.Lib.ownsRow_kind h k hq.symm
    rw [hk] at hc
    simp only [Option.some.injEq, Obj.cells.injEq] at hc
    exact ht hc.2.1
/-- a block that is no row stays where a row grows -/
theorem grown_other {w w' : World} {B e m n k : Nat} {v : Value} {xs : List Value} (h : w.ownsRow B e m v n xs) (hg : w.grownBy w' v.ownBlock) (hl : k < w.heap.size) (hk : ∀ c t fz, w.heap[k]? ≠ some (.cells c t fz)) : w'.heap[k]? = w.heap[k]? :=
  hg.block k hl fun hq => by
    obtain ⟨c', fz', hc⟩ := Go.Lib.ownsRow_kind h k hq.symm
    exact hk _ _ _ hc
/-- a row stays when a block of another type turns -/
theorem owns_turned {w w' : World} {B e m n p : Nat} {v : Value} {xs : List Value} {c : Array Value} {t : TypeId} {fz : Nat × Nat} (h : w.ownsRow B e m v n xs) (hp : w.heap[p]? = some (.cells c t fz)) (ht : t ≠ e) (hk : ∀ k, k ≠ p → w'.heap[k]? = w.heap[k]?) : w'.ownsRow B e m v n xs := by
  refine ⟨h.1, ?_⟩
  rcases h.2 with h3 | ⟨g, cap', cur, hv, hb, hh, h4⟩
  · exact .inl h3
  · refine .inr ⟨g, cap', cur, hv, hb, ?_, h4⟩
    rw [hk g (fun e => by
      subst e
      rw [hp] at hh
      simp only [Option.some.injEq, Obj.cells.injEq] at hh
      exact ht hh.2.1)]
    exact hh
/-- a row stays where only block q turns, that is no row -/
theorem owns_only {w w' : World} {B e m n q : Nat} {v : Value} {xs : List Value} (h : w.ownsRow B e m v n xs) (ho : Only q w w') (hm : ∀ d t fz, w.heap[q]? ≠ some (.cells d t fz)) : w'.ownsRow B e m v n xs := by
  refine ⟨h.1, ?_⟩
  rcases h.2 with h3 | ⟨g, cap', cur, hv, hb, hh, h4⟩
  · exact .inl h3
  · exact .inr ⟨g, cap', cur, hv, hb, (ho.block g (heap_lt hh) (fun e => hm _ _ _ (e ▸ hh))).trans hh, h4⟩
theorem owns_split {w : World} {B e m n : Nat} {v : Value} {xs : List Value} (h : w.ownsRow B e m v n xs) : ∃ (a : Option Addr) (cap : Nat), v = .slice a n cap := by
  rcases h.2 with ⟨rfl, rfl⟩ | ⟨g, cap, cur, rfl, -⟩
  · exact ⟨none, 0, rfl⟩
  · exact ⟨_, cap, rfl⟩
end Go.Proofs.YtnnggchkdffpnaaDoor
