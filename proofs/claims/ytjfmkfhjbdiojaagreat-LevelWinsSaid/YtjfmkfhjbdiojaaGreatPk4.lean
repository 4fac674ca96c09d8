/-
  Lemmas and contracts of this project's own, put together: KitG.
-/
import Derived.Laws.StructEq
import Derived.Test.YtjfmkfhjbdiojaaGreatPk3
namespace Go.Proofs.YtjfmkfhjbdiojaaGreat
set_option linter.unusedSimpArgs false
set_option linter.unusedVariables false
open Go.RowKit

/-- what a comparison looks at of a struct's fields -/
def fdesc (l : List Field) : List (String × TypeId × Nat) := l.map (fun f => (f.name, f.type, f.offset))
theorem eqF_nil {P : Program} (w : World) (d : Nat) (xs ys : Array Value) {l : List Field} (h : fdesc l = []) : (Op.eqFields d xs ys l).run P w = .ok true w := by
  cases l with
  | nil => simp [Op.eqFields]
  | cons f l => simp [fdesc] at h
theorem eqF_cons {P : Program} (w : World) (d : Nat) (xs ys : Array Value) {l : List Field} {n : String} {t o : Nat} {rest : List (String × TypeId × Nat)} (h : fdesc l = (n, t, o) :: rest) (hn : n ≠ "_") {a b : Value} {r s : Bool}
    (ha : (part t xs o).run P w = .ok a w) (hb : (part t ys o).run P w = .ok b w) (he : (Op.equalIn d t a b).run P w = .ok r w) (hr : ∀ l', fdesc l' = rest → (Op.eqFields d xs ys l').run P w = .ok s w) :
    (Op.eqFields d xs ys l).run P w = .ok (r && s) w := by
  cases l with
  | nil => simp [fdesc] at h
  | cons f l =>
    simp only [fdesc, List.map_cons, List.cons.injEq, Prod.mk.injEq] at h
    obtain ⟨⟨h1, h2, h3⟩, h4⟩ := h
    subst h1 h2 h3
    simp only [Op.eqFields, Sem.run_bind, Sem.run_ite, hn, ha, hb, he, Result.andThen_ok, ne_eq, not_false_eq_true, if_true]
    cases r
    · simp
    · simp [hr l h4]
theorem only_cell {q : Nat} {w w' : World} (h : Only q w w') {b o : Nat} (hb : b < w.heap.size) (hq : b ≠ q) : w'.cell? ⟨b, o, none⟩ = w.cell? ⟨b, o, none⟩ := by
  simp only [World.cell?, h.block b hb hq]
theorem cell_keep' {w w' : World} {p b o : Nat} (hb : Below p w w') (h : b < p) : w'.cell? ⟨b, o, none⟩ = w.cell? ⟨b, o, none⟩ := hb.cell (p := ⟨b, o, none⟩) h
theorem owns_top {w : World} {B e n m : Nat} {v : Value} {xs : List Value} (h : w.ownsRow B e m v n xs) : ∀ k, v.ownBlock = some k → k < w.heap.size := fun k hk => (h.lt k hk).2
end Go.Proofs.YtjfmkfhjbdiojaaGreat
