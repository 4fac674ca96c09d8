/-
  General lemmas of this project's own, eighth part: maps that the call makes, whatever their elements: what each key has.
-/
import Derived.Test.YtnnggchkdffpnaaDoorKitG
import Derived.Maps.Own
import Derived.Maps.OwnOps
import Derived.Maps.OwnSet
namespace Go.Proofs.YtnnggchkdffpnaaDoor
set_option linter.unusedSimpArgs false
set_option linter.unusedVariables false
open Go.RowKit Go.Maps

/-- an element reads as itself -/
def asIs (v : Value) : Option (DataW Value × List MemPlace) := some (.held v, [])
/-- block b is a map of at most n entries, of c keys; f: what each key has -/
def MapIs (w : World) (P : Program) (k : TypeId) (b n c : Nat) (f : Lit → Option Value) : Prop :=
  ∃ D : DataW Value, w.ownsMap P k asIs b n D ∧ Maps.size D = c ∧ (∀ kl, WideAt.IsKeyLit kl → Maps.has D kl = (f kl).isSome) ∧ ∀ kl z, WideAt.IsKeyLit kl → D.atKey kl (.held z) = .held ((f kl).getD z)
theorem MapIs.made (w : World) (P : Program) (k : TypeId) : MapIs (w.alloc (.map #[] 0)) P k w.heap.size 0 0 (fun _ => none) :=
  ⟨.map [], World.ownsMap_made w P k asIs, rfl, fun _ _ => rfl, fun _ _ _ => rfl⟩
theorem MapIs.lt {w : World} {P : Program} {k : TypeId} {b n c : Nat} {f : Lit → Option Value} (h : MapIs w P k b n c f) : b < w.heap.size := let ⟨_, h1, _⟩ := h; h1.lt
theorem MapIs.mono {w : World} {P : Program} {k : TypeId} {b n n' c : Nat} {f : Lit → Option Value} (h : MapIs w P k b n c f) (hn : n ≤ n') : MapIs w P k b n' c f := let ⟨D, h1, h2⟩ := h; ⟨D, h1.mono hn, h2⟩
theorem MapIs.kept {w w' : World} {P : Program} {k : TypeId} {b n c : Nat} {f : Lit → Option Value} (h : MapIs w P k b n c f) (hb : w'.heap[b]? = w.heap[b]?) : MapIs w' P k b n c f := by
  obtain ⟨D, ⟨es, clock, h1, h2⟩, h3⟩ := h
  exact ⟨D, ⟨es, clock, hb.trans h1, h2⟩, h3⟩
theorem MapIs.below {w w' : World} {P : Program} {k : TypeId} {b n c : Nat} {f : Lit → Option Value} (h : MapIs w P k b n c f) (hb : Below w.heap.size w w') : MapIs w' P k b n c f := h.kept (hb.block b h.lt)
theorem MapIs.only {w w' : World} {P : Program} {k : TypeId} {b n c q : Nat} {f : Lit → Option Value} (h : MapIs w P k b n c f) (hb : Only q w w') (hq : b ≠ q) : MapIs w' P k b n c f := h.kept (hb.block b h.lt hq)
theorem only_of_grown {w w' : World} {b : Nat} (h : w.grownBy w' (some b)) : Only b w w' := ⟨h.os, h.tape, h.output, h.size, fun k hk hq => h.block k hk (by intro e; cases e; exact hq rfl)⟩
/-- 'm[k]' -/
theorem MapIs.look {w : World} {P : Program} {k e t : TypeId} {b n c : Nat} {f : Lit → Option Value} (h : MapIs w P k b n c f) (K : Keyed P k) (ht : P.underlying t = some (.map k e)) {z : Value} (hz : (zeroValue e).run P w = .ok z w)
    {key : Value} {kl : Lit} (hkey : keyOf P k key = some kl) (hk : WideAt.IsKeyLit kl) : (Instr.lookup t (.map (some b)) key false).run P w = .ok ((f kl).getD z) w := by
  obtain ⟨D, h1, h2, h3, h4⟩ := h
  obtain ⟨v, ps, hr, hv⟩ := h1.lookup K ht hz (show asIs z = some (.held z, []) from rfl) hkey
  rw [h4 kl z hk] at hv
  simp only [asIs, Option.some.injEq, Prod.mk.injEq, DataW.held.injEq] at hv
  rw [hr, hv.1]
/-- 'v, ok := m[k]' -/
theorem MapIs.look_ok {w : World} {P : Program} {k e t : TypeId} {b n c : Nat} {f : Lit → Option Value} (h : MapIs w P k b n c f) (K : Keyed P k) (ht : P.underlying t = some (.map k e)) {z : Value} (hz : (zeroValue e).run P w = .ok z w)
    {key : Value} {kl : Lit} (hkey : keyOf P k key = some kl) (hk : WideAt.IsKeyLit kl) : (Instr.lookup t (.map (some b)) key true).run P w = .ok (.tuple #[(f kl).getD z, .bool (f kl).isSome]) w := by
  obtain ⟨D, h1, h2, h3, h4⟩ := h
  obtain ⟨v, ps, hr, hv⟩ := h1.look_ok K ht hz (show asIs z = some (.held z, []) from rfl) hkey
  rw [h4 kl z hk] at hv
  simp only [asIs, Option.some.injEq, Prod.mk.injEq, DataW.held.injEq] at hv
  rw [hr, hv.1, h3 kl hk]
/-- 'm[k] = v' -/
theorem MapIs.store {w : World} {P : Program} {k e t : TypeId} {b n c : Nat} {f : Lit → Option Value} (h : MapIs w P k b n c f) (K : Keyed P k) (ht : P.underlying t = some (.map k e)) (hn : n < maxLen) {key : Value} (val : Value) {kl : Lit} (hkey : keyOf P k key = some kl) (hk : WideAt.IsKeyLit kl) :
    ∃ w', (Instr.mapUpdate t (.map (some b)) key val).run P w = .ok () w' ∧ MapIs w' P k b (n + 1) (if (f kl).isSome then c else c + 1) (fun l => if l.sameKey kl = true then some val else f l) ∧ w.grownBy w' (some b) := by
  obtain ⟨D, h1, h2, h3, h4⟩ := h
  obtain ⟨w', hr, ho, hg⟩ := h1.update K ht hn hkey (show asIs val = some (.held val, []) from rfl)
  refine ⟨w', hr, ⟨D.put kl (.held val), ho, ?_, fun l hl => ?_, fun l z hl => ?_⟩, hg⟩
  · rw [Maps.size_put (h1.tidy K), h2, h3 kl hk]
  · dsimp only; by_cases hc : l = kl
    · subst hc; rw [Maps.has_put_same h1.isMap hl, if_pos (WideAt.sameKey_self hl)]; rfl
    · rw [Maps.has_put_other hc, h3 l hl, if_neg (fun h => hc (WideAt.sameKey_eq h))]
  · dsimp only; by_cases hc : l = kl
    · subst hc; rw [Maps.atKey_put_same h1.isMap hl, if_pos (WideAt.sameKey_self hl)]; rfl
    · rw [Maps.atKey_put_other hc, h4 l z hl, if_neg (fun h => hc (WideAt.sameKey_eq h))]
/-- 'delete(m, k)' -/
theorem MapIs.drop {w : World} {P : Program} {k e t : TypeId} {b n c : Nat} {f : Lit → Option Value} (h : MapIs w P k b n c f) (K : Keyed P k) (ht : P.underlying t = some (.map k e)) {key : Value} {kl : Lit} (hkey : keyOf P k key = some kl) (hk : WideAt.IsKeyLit kl) (ty : TypeId) :
    ∃ w', (Builtin.delete_ #[t, k] ty #[.map (some b), key]).run P w = .ok (.tuple #[]) w' ∧ MapIs w' P k b n (c - if (f kl).isSome then 1 else 0) (fun l => if l.sameKey kl = true then none else f l) ∧ w.grownBy w' (some b) := by
  obtain ⟨D, h1, h2, h3, h4⟩ := h
  obtain ⟨w', hr, ho, hg⟩ := h1.drop K ht hkey ty
  refine ⟨w', hr, ⟨D.del kl, ho, ?_, fun l hl => ?_, fun l z hl => ?_⟩, hg.grown⟩
  · have := Maps.size_del (k := kl) (h1.tidy K)
    rw [h2, h3 kl hk] at this
    omega
  · dsimp only; by_cases hc : l = kl
    · subst hc; rw [Maps.has_del_same, if_pos (WideAt.sameKey_self hl)]; rfl
    · rw [Maps.has_del_other hc, h3 l hl, if_neg (fun h => hc (WideAt.sameKey_eq h))]
  · dsimp only; by_cases hc : l = kl
    · subst hc; rw [Maps.atKey_del_same, if_pos (WideAt.sameKey_self hl)]; rfl
    · rw [Maps.atKey_del_other hc, h4 l z hl, if_neg (fun h => hc (WideAt.sameKey_eq h))]
/-- 'len(m)' -/
theorem MapIs.len {w : World} {P : Program} {k e t : TypeId} {b n c : Nat} {f : Lit → Option Value} (h : MapIs w P k b n c f) (ht : P.underlying t = some (.map k e)) (ty : TypeId) : (Builtin.len_ #[t] ty #[.map (some b)]).run P w = .ok (.int .i64 c) w := by
  obtain ⟨D, h1, h2, _⟩ := h
  rw [h1.len ht ty, h2]
/-- 'm[k] = v', at the operation -/
theorem wpList_mapStore {P : Program} (w : World) {ops : Array Oper} {rest : List Oper} {o : Oper} {a : Act} {Q : Exit → Act → World → Prop}
    (hg : o.guard = none) (m x v : Operand) (t : TypeId) (hop : o.op = Op.mapUpdate t m x v)
    (k e : TypeId) (K : Keyed P k) (ht : P.underlying t = some (.map k e)) (b n c : Nat) (f : Lit → Option Value)
    (hm : a.eval m = .map (some b)) (hown : MapIs w P k b n c f) (hn : n < maxLen) (key val : Value) (kl : Lit) (hx : a.eval x = key) (hv : a.eval v = val) (hkey : keyOf P k key = some kl) (hk : WideAt.IsKeyLit kl)
    (hK : ∀ w', MapIs w' P k b (n + 1) (if (f kl).isSome then c else c + 1) (fun l => if l.sameKey kl = true then some val else f l) → w.grownBy w' (some b) → wpList P ops Q rest (a.put o.dst undef) w') :
    wpList P ops Q (o :: rest) a w := by
  refine wpList_plain hg fun K' hK' => ?_
  obtain ⟨w', hrun, r1, r2⟩ := hown.store K ht hn val hkey hk
  unfold Oper.wp
  simp [execOp, hop, hm, hx, hv, hrun, Result.andThen]
  exact hK' _ _ (hK w' r1 r2)
end Go.Proofs.YtnnggchkdffpnaaDoor
