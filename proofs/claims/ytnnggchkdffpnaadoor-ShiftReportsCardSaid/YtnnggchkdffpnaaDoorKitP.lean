/-
  General lemmas of this project's own, eleventh part: blocks of cells of some types alone may have turned.
-/
import Derived.Test.YtnnggchkdffpnaaDoorKitO
import Derived.Lib.OwnKind
namespace Go.Proofs.YtnnggchkdffpnaaDoor
set_option linter.unusedSimpArgs false
set_option linter.unusedVariables false
open Go.RowKit

/-- all that is no row of these types is as it was -/
def KeepsT (Ts : List TypeId) (w w' : World) : Prop := ∀ (k : Nat) (o : Obj), w.heap[k]? = some o → (∀ c t fz, o = .cells c t fz → t ∉ Ts) → w'.heap[k]? = some o
theorem KeepsT.refl (Ts : List TypeId) (w : World) : KeepsT Ts w w := fun _ _ h _ => h
theorem KeepsT.of_below {Ts : List TypeId} {w w' : World} (h : Below w.heap.size w w') : KeepsT Ts w w' := fun k _ hk _ => (h.block k (heap_lt hk)).trans hk
theorem KeepsT.trans {Ts : List TypeId} {a b c : World} (h : KeepsT Ts a b) (k : KeepsT Ts b c) : KeepsT Ts a c := fun i o hi ht => k i o (h i o hi ht) ht
theorem KeepsT.mono {Ts Us : List TypeId} {a b : World} (h : KeepsT Ts a b) (hs : ∀ t ∈ Ts, t ∈ Us) : KeepsT Us a b := fun i o hi ht => h i o hi fun c t fz e hm => ht c t fz e (hs t hm)
theorem KeepsT.setCell {Ts : List TypeId} {w : World} {p : Nat} {c : Array Value} {t : TypeId} {fz : Nat × Nat} (h : w.heap[p]? = some (.cells c t fz)) (ht : t ∈ Ts) (j : Nat) (v : Value) : KeepsT Ts w (w.setCell ⟨p, j, none⟩ v) := fun k o hk hn => by
  have hne : p ≠ k := fun e => by
    subst e
    rw [h] at hk
    exact hn _ _ _ (Option.some.inj hk).symm ht
  rw [block_setCell_other hne]
  exact hk
theorem KeepsT.grown {Ts : List TypeId} {w w' : World} {B e m n : Nat} {v : Value} {xs : List Value} (ho : w.ownsRow B e m v n xs) (ht : e ∈ Ts) (hg : w.grownBy w' v.ownBlock) : KeepsT Ts w w' := fun k o hk hn => by
  refine (hg.block k (heap_lt hk) fun hq => ?_).trans hk
  obtain ⟨c, fz, hc⟩ := Go.Lib.ownsRow_kind ho k hq.symm
  rw [hk] at hc
  exact hn _ _ _ (Option.some.inj hc) ht
theorem KeepsT.cells {Ts : List TypeId} {w w' : World} (h : KeepsT Ts w w') {k : Nat} {c : Array Value} {t : TypeId} {fz : Nat × Nat} (hk : w.heap[k]? = some (.cells c t fz)) (ht : t ∉ Ts) : w'.heap[k]? = some (.cells c t fz) :=
  h k _ hk fun c' t' fz' e => by cases e; exact ht
theorem KeepsT.owns {Ts : List TypeId} {w w' : World} (h : KeepsT Ts w w') {B e m n : Nat} {v : Value} {xs : List Value} (ho : w.ownsRow B e m v n xs) (ht : e ∉ Ts) : w'.ownsRow B e m v n xs := by
  refine ⟨ho.1, ?_⟩
  rcases ho.2 with h3 | ⟨g, cap', cur, hv, hg, hh, h4⟩
  · exact .inl h3
  · exact .inr ⟨g, cap', cur, hv, hg, h.cells hh ht, h4⟩
theorem KeepsT.drewN {Ts : List TypeId} {a b : World} (h : KeepsT Ts a b) (n : Nat) : KeepsT Ts a (b.drewN n) := h
end Go.Proofs.YtnnggchkdffpnaaDoor
