/-
  Lemmas and contracts of this project's own, put together: KitX.
-/
import Derived.Maps.RangeWalk
import Derived.Test.YtjfmkfhjbdiojaaGreatPk20
namespace Go.Proofs.YtjfmkfhjbdiojaaGreat
set_option linter.unusedSimpArgs false
set_option linter.unusedVariables false
open Go.RowKit Go.Maps

/-- block r ranges over the map at block b: f: what each key has; left: which are still to come, cnt of them -/
def RgIs (w : World) (P : Program) (k : TypeId) (b r cnt : Nat) (f : Lit → Option Value) (left : Lit → Bool) : Prop :=
  ∃ n D, w.ranges P k asIs b r n D left cnt ∧ ∀ kl z, WideAt.IsKeyLit kl → D.atKey kl (.held z) = .held ((f kl).getD z)
theorem RgIs.lt {w : World} {P : Program} {k : TypeId} {b r cnt : Nat} {f : Lit → Option Value} {left : Lit → Bool} (h : RgIs w P k b r cnt f left) : b < w.heap.size ∧ r < w.heap.size ∧ r ≠ b := by
  obtain ⟨n, D, h1, -⟩ := h
  exact ⟨h1.owns.lt, h1.lt, h1.ne⟩
theorem RgIs.kept {w w' : World} {P : Program} {k : TypeId} {b r cnt : Nat} {f : Lit → Option Value} {left : Lit → Bool} (h : RgIs w P k b r cnt f left) (hb : w'.heap[b]? = w.heap[b]?) (hr : w'.heap[r]? = w.heap[r]?) : RgIs w' P k b r cnt f left := by
  obtain ⟨n, D, ⟨es, clock, since, seen, c0, g1, g2, g3, g4, g5, rest⟩, h2⟩ := h
  exact ⟨n, D, ⟨es, clock, since, seen, c0, hb.trans g1, g2, g3, g4, hr.trans g5, rest⟩, h2⟩
theorem RgIs.below {w w' : World} {P : Program} {k : TypeId} {b r cnt : Nat} {f : Lit → Option Value} {left : Lit → Bool} (h : RgIs w P k b r cnt f left) (hb : Below w.heap.size w w') : RgIs w' P k b r cnt f left := h.kept (hb.block _ h.lt.1) (hb.block _ h.lt.2.1)
theorem RgIs.only {w w' : World} {P : Program} {k : TypeId} {b r cnt q : Nat} {f : Lit → Option Value} {left : Lit → Bool} (h : RgIs w P k b r cnt f left) (ho : Only q w w') (hb : b ≠ q) (hr : r ≠ q) : RgIs w' P k b r cnt f left := h.kept (ho.block _ h.lt.1 hb) (ho.block _ h.lt.2.1 hr)
theorem RgIs.rangeLeft {w : World} {P : Program} {k : TypeId} {b r cnt : Nat} {f : Lit → Option Value} {left : Lit → Bool} (h : RgIs w P k b r cnt f left) : w.rangeLeft b r = cnt := by
  obtain ⟨n, D, h1, -⟩ := h
  exact h1.left_eq
/-- the iterator's block is no row, and no map -/
theorem RgIs.noCells {w : World} {P : Program} {k : TypeId} {b r cnt : Nat} {f : Lit → Option Value} {left : Lit → Bool} (h : RgIs w P k b r cnt f left) : (∀ d t fz, w.heap[r]? ≠ some (.cells d t fz)) ∧ (∀ d t fz, w.heap[b]? ≠ some (.cells d t fz)) := by
  obtain ⟨n, D, ⟨es, clock, since, seen, c0, g1, g2, g3, g4, g5, rest⟩, h2⟩ := h
  exact ⟨(fun d t fz e => by rw [g5] at e; cases e), (fun d t fz e => by rw [g1] at e; cases e)⟩
theorem MapIs.noCells {w : World} {P : Program} {k : TypeId} {b n c : Nat} {f : Lit → Option Value} (h : MapIs w P k b n c f) (d : Array Value) (t : TypeId) (fz : Nat × Nat) : w.heap[b]? ≠ some (.cells d t fz) := by
  obtain ⟨D, ⟨es, nx, hh, _⟩, _⟩ := h
  intro he
  rw [hh] at he
  cases he
/-- 'range m', at the operation -/
theorem wpList_mapRange {P : Program} (w : World) {ops : Array Oper} {rest : List Oper} {o : Oper} {a : Act} {Q : Exit → Act → World → Prop}
    (hg : o.guard = none) (m : Operand) (t : TypeId) (hop : o.op = Op.range t m) (k e : TypeId) (K : Keyed P k) (ht : P.underlying t = some (.map k e)) (b n c : Nat) (f : Lit → Option Value)
    (hm : a.eval m = .map (some b)) (hown : MapIs w P k b n c f)
    (hK : ∀ w' left, RgIs w' P k b w.heap.size c f left → (∀ kl, WideAt.IsKeyLit kl → left kl = (f kl).isSome) → w.grownBy w' none → w'.heap.size = w.heap.size + 1 → wpList P ops Q rest (a.put o.dst (.pointer (some ⟨w.heap.size, 0, none⟩))) w') :
    wpList P ops Q (o :: rest) a w := by
  obtain ⟨D, h1, h2, h3, h4⟩ := hown
  exact wpList_range_own w hg m t hop k e K ht asIs b n D hm h1 fun w' g1 g2 g3 => hK w' _ ⟨n, D, h2 ▸ g1, h4⟩ h3 g2 g3
theorem asIs_held {f : Option Value} {v : Value} (h : ∀ z : Value, (DataW.held (H := Value) (f.getD z)) = .held v) : f = some v := by
  cases f with
  | some u => have := h (.bool true); simp only [Option.getD_some, DataW.held.injEq] at this; rw [this]
  | none =>
    have h1 := h (.bool true)
    have h2 := h (.bool false)
    simp only [Option.getD_none, DataW.held.injEq] at h1 h2
    rw [← h2] at h1
    cases h1
/-- the next key and its value, keys numbers, at the operation -/
theorem wpList_mapNext {P : Program} (w : World) {ops : Array Oper} {rest : List Oper} {o : Oper} {a : Act} {Q : Exit → Act → World → Prop}
    (hg : o.guard = none) (it : Operand) (hop : o.op = Op.next it false) (k : TypeId) (q : IntKind) (K : Keyed P k) (hk : P.underlying k = some (.int q)) (b r cnt : Nat) (f : Lit → Option Value) (left : Lit → Bool)
    (hit : a.eval it = .pointer (some ⟨r, 0, none⟩)) (h : RgIs w P k b r cnt f left)
    (hDone : cnt = 0 → (∀ kl, left kl = false) → wpList P ops Q rest (a.put o.dst (.tuple #[.bool false])) w)
    (hMore : ∀ (x : Int) (v : Value) (w' : World) (cnt' : Nat), (Lit.int q x).wf = true → left (.int q x) = true → f (.int q x) = some v → RgIs w' P k b r cnt' f (fun z => left z && !z.sameKey (.int q x)) → cnt' < cnt →
      w.grownBy w' (some r) → w'.heap.size = w.heap.size → (Instr.entry (.pointer (some ⟨r, 0, none⟩))).run P w' = .ok (.tuple #[.int q x, v]) w' → wpList P ops Q rest (a.put o.dst (.tuple #[.bool true, .int q x, v])) w') :
    wpList P ops Q (o :: rest) a w := by
  obtain ⟨n, D, h1, h2⟩ := h
  refine wpList_next_ranges w hg it hop k K asIs (Value.int q) (fun v : Value => v) (fun key kl hkey => by obtain ⟨x, rfl, _⟩ := Maps.keyOf_int_inv hk hkey; exact ⟨x, rfl⟩) (fun v _ _ => ⟨v, rfl⟩) b r n D left cnt hit h1 hDone fun x v kl y w' cnt' hkey hlk hv hat hrg hlt hgr hsz hen => ?_
  obtain ⟨x', ex, rfl, hwx⟩ := Maps.keyOf_int_inv hk hkey
  cases ex
  simp only [asIs, Option.some.injEq] at hv
  subst hv
  refine hMore x v w' cnt' hwx hlk (asIs_held fun z => ?_) ⟨n, D, hrg, h2⟩ hlt hgr hsz hen
  rw [← h2 _ z (by trivial), hat]
end Go.Proofs.YtjfmkfhjbdiojaaGreat
