/-
  Layer 5's laws: a map beside a chip; the text of an erased page.
-/
import Derived.Test.YthippbckjldijaaMOnce
namespace Go.Proofs.Ythippbckjldijaa
set_option linter.unusedSimpArgs false
set_option linter.unusedVariables false
open Go.RowKit Go.WideShapes Go.ChangeShapes Go.ChangeAt Go.Deep

theorem MapIs.keeps {Ts : List TypeId} {w w' : World} {P : Program} {k : TypeId} {b n c : Nat} {f : Lit → Option Value} (h : MapIs w P k b n c f) (hb : KeepsT Ts w w') : MapIs w' P k b n c f := by
  obtain ⟨D, ⟨es, clock, h1, h2⟩, h3⟩ := h
  exact ⟨D, ⟨es, clock, hb _ _ h1 (fun _ _ _ e => by cases e), h2⟩, h3⟩
theorem MapIs.noCells {w : World} {P : Program} {k : TypeId} {b n c : Nat} {f : Lit → Option Value} (h : MapIs w P k b n c f) (d : Array Value) (t : TypeId) (fz : Nat × Nat) : w.heap[b]? ≠ some (.cells d t fz) := by
  obtain ⟨D, ⟨es, clock, h1, h2⟩, h3⟩ := h
  rw [h1]
  intro e
  cases e
/-- a block that is no row of these kinds has turned -/
theorem NandAt.beside {w w' : World} {p q B : Nat} {G : Nat → Nat} {S : ChipM} (h : NandAt w p q B G S) {m : Nat} (ho : Only m w w') (hm : ∀ d t fz, w.heap[m]? ≠ some (.cells d t fz)) : NandAt w' p q B G S := by
  have hk : ∀ (k : Nat) (d : Array Value) (t : TypeId) (fz : Nat × Nat), w.heap[k]? = some (.cells d t fz) → w'.heap[k]? = w.heap[k]? := fun k d t fz hk => ho.block k (heap_lt hk) (fun e => hm d t fz (e ▸ hk))
  refine ⟨(hk _ _ _ _ h.head).trans h.head, h.row.kept ?_, fun k hkl => (h.page k hkl).kept ?_, h.inj, h.base, h.len, h.few⟩
  · obtain ⟨c, hc, -⟩ := h.row
    exact hk _ _ _ _ hc
  · obtain ⟨c, hc, -⟩ := h.page k hkl
    exact hk _ _ _ _ hc
theorem ff32 : (⟨(Lib.repeatL [255] 32).toArray⟩ : ByteArray) = (filledP 32 ffB).1 := by kernel_rfl
end Go.Proofs.Ythippbckjldijaa
