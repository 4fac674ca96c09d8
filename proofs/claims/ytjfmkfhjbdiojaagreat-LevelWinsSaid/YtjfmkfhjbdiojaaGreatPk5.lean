/-
  Lemmas and contracts of this project's own, put together: KitM, KitN, KitO.
-/
import Derived.Maps.Own
import Derived.Maps.OwnOps
import Derived.Maps.OwnSet
import Derived.Test.YtjfmkfhjbdiojaaGreatPk4
namespace Go.Proofs.YtjfmkfhjbdiojaaGreat
set_option linter.unusedSimpArgs false
set_option linter.unusedVariables false
open Go.RowKit Go.Maps

/-- an element reads as itself -/
def asIs (v : Value) : Option (DataW Value × List MemPlace) := some (.held v, [])
/-- block b is a map of at most n entries, of c keys; f: what each key has -/
def MapIs (w : World) (P : Program) (k : TypeId) (b n c : Nat) (f : Lit → Option Value) : Prop :=
  ∃ D : DataW Value, w.ownsMap P k asIs b n D ∧ Maps.size D = c ∧ (∀ kl, WideAt.IsKeyLit kl → Maps.has D kl = (f kl).isSome) ∧ ∀ kl z, WideAt.IsKeyLit kl → D.atKey kl (.held z) = .held ((f kl).getD z)
theorem MapIs.made (w : World) (P : Program) (k : TypeId) : MapIs (w.alloc (.map #[] 0)) P k w.heap.size 0 0 (fun _ => none) :=
  ⟨.map [], World.ownsMap_made w P k asIs, rfl, fun _ _ => rfl, fun _ _ _ => rfl⟩
theorem MapIs.lt {w : World} {P : Program} {k : TypeId} {b n c : Nat} {f : Lit → Option Value} (h : MapIs w P k b n c f) : b < w.heap.size := let ⟨_, h1, _⟩ := h; h1.lt
theorem MapIs.mono {w : World} {P : Program} {k : TypeId} {b n n' c : Nat} {f : Lit → Option Value} (h : MapIs w P k b n c f) (hn : n ≤ n') : MapIs w P k b n' c f := let ⟨D, h1, h2⟩ := h; ⟨D, h1.mono hn, h2⟩
theorem MapIs.kept {w w' : World} {P : Program} {k : TypeId} {b n c : Nat} {f : Lit → Option Value} (h : MapIs w P k b n c f) (hb : w'.heap[b]? = w.heap[b]?) : MapIs w' P k b n c f := by
  obtain ⟨D, ⟨es, clock, h1, h2⟩, h3⟩ := h
  exact ⟨D, ⟨es, clock, hb.trans h1, h2⟩, h3⟩
theorem MapIs.below {w w' : World} {P : Program} {k : TypeId} {b n c : Nat} {f : Lit → Option Value} (h : MapIs w P k b n c f) (hb : Below w.heap.size w w') : MapIs w' P k b n c f := h.kept (hb.block b h.lt)
theorem MapIs.only {w w' : World} {P : Program} {k : TypeId} {b n c q : Nat} {f : Lit → Option Value} (h : MapIs w P k b n c f) (hb : Only q w w') (hq : b ≠ q) : MapIs w' P k b n c f := h.kept (hb.block b h.lt hq)
theorem only_of_grown {w w' : World} {b : Nat} (h : w.grownBy w' (some b)) : Only b w w' := ⟨h.os, h.tape, h.output, h.size, fun k hk hq => h.block k hk (by intro e; cases e; exact hq rfl)⟩
/-- 'm[k]' -/
theorem MapIs.look {w : World} {P : Program} {k e t : TypeId} {b n c : Nat} {f : Lit → Option Value} (h : MapIs w P k b n c f) (K : Keyed P k) (ht : P.underlying t = some (.map k e)) {z : Value} (hz : (zeroValue e).run P w = .ok z w)
    {key : Value} {kl : Lit} (hkey : keyOf P k key = some kl) (hk : WideAt.IsKeyLit kl) : (Instr.lookup t (.map (some b)) key false).run P w = .ok ((f kl).getD z) w := by
  obtain ⟨D, h1, h2, h3, h4⟩ := h
  obtain ⟨v, ps, hr, hv⟩ := h1.lookup K ht hz (show asIs z = some (.held z, []) from rfl) hkey
  rw [h4 kl z hk] at hv
  simp only [asIs, Option.some.injEq, Prod.mk.injEq, DataW.held.injEq] at hv
  rw [hr, hv.1]
/-- 'v, ok := m[k]' -/
theorem MapIs.look_ok {w : World} {P : Program} {k e t : TypeId} {b n c : Nat} {f : Lit → Option Value} (h : MapIs w P k b n c f) (K : Keyed P k) (ht : P.underlying t = some (.map k e)) {z : Value} (hz : (zeroValue e).run P w = .ok z w)
    {key : Value} {kl : Lit} (hkey : keyOf P k key = some kl) (hk : WideAt.IsKeyLit kl) : (Instr.lookup t (.map (some b)) key true).run P w = .ok (.tuple #[(f kl).getD z, .bool (f kl).isSome]) w := by
  obtain ⟨D, h1, h2, h3, h4⟩ := h
  obtain ⟨v, ps, hr, hv⟩ := h1.look_ok K ht hz (show asIs z = some (.held z, []) from rfl) hkey
  rw [h4 kl z hk] at hv
  simp only [asIs, Option.some.injEq, Prod.mk.injEq, DataW.held.injEq] at hv
  rw [hr, hv.1, h3 kl hk]
/-- 'm[k] = v' -/
theorem MapIs.store {w : World} {P : Program} {k e t : TypeId} {b n c : Nat} {f : Lit → Option Value} (h : MapIs w P k b n c f) (K : Keyed P k) (ht : P.underlying t = some (.map k e)) (hn : n < maxLen) {key : Value} (val : Value) {kl : Lit} (hkey : keyOf P k key = some kl) (hk : WideAt.IsKeyLit kl) :
    ∃ w', (Instr.mapUpdate t (.map (some b)) key val).run P w = .ok () w' ∧ MapIs w' P k b (n + 1) (if (f kl).isSome then c else c + 1) (fun l => if l.sameKey kl = true then some val else f l) ∧ w.grownBy w' (some b) := by
  obtain ⟨D, h1, h2, h3, h4⟩ := h
  obtain ⟨w', hr, ho, hg⟩ := h1.update K ht hn hkey (show asIs val = some (.held val, []) from rfl)
  refine ⟨w', hr, ⟨D.put kl (.held val), ho, ?_, fun l hl => ?_, fun l z hl => ?_⟩, hg⟩
  · rw [Maps.size_put (h1.tidy K), h2, h3 kl hk]
  · dsimp only; by_cases hc : l = kl
    · subst hc; rw [Maps.has_put_same h1.isMap hl, if_pos (WideAt.sameKey_self hl)]; rfl
    · rw [Maps.has_put_other hc, h3 l hl, if_neg (fun h => hc (WideAt.sameKey_eq h))]
  · dsimp only; by_cases hc : l = kl
    · subst hc; rw [Maps.atKey_put_same h1.isMap hl, if_pos (WideAt.sameKey_self hl)]; rfl
    · rw [Maps.atKey_put_other hc, h4 l z hl, if_neg (fun h => hc (WideAt.sameKey_eq h))]
/-- 'delete(m, k)' -/
theorem MapIs.drop {w : World} {P : Program} {k e t : TypeId} {b n c : Nat} {f : Lit → Option Value} (h : MapIs w P k b n c f) (K : Keyed P k) (ht : P.underlying t = some (.map k e)) {key : Value} {kl : Lit} (hkey : keyOf P k key = some kl) (hk : WideAt.IsKeyLit kl) (ty : TypeId) :
    ∃ w', (Builtin.delete_ #[t, k] ty #[.map (some b), key]).run P w = .ok (.tuple #[]) w' ∧ MapIs w' P k b n (c - if (f kl).isSome then 1 else 0) (fun l => if l.sameKey kl = true then none else f l) ∧ w.grownBy w' (some b) := by
  obtain ⟨D, h1, h2, h3, h4⟩ := h
  obtain ⟨w', hr, ho, hg⟩ := h1.drop K ht hkey ty
  refine ⟨w', hr, ⟨D.del kl, ho, ?_, fun l hl => ?_, fun l z hl => ?_⟩, hg.grown⟩
  · have := Maps.size_del (k := kl) (h1.tidy K)
    rw [h2, h3 kl hk] at this
    omega
  · dsimp only; by_cases hc : l = kl
    · subst hc; rw [Maps.has_del_same, if_pos (WideAt.sameKey_self hl)]; rfl
    · rw [Maps.has_del_other hc, h3 l hl, if_neg (fun h => hc (WideAt.sameKey_eq h))]
  · dsimp only; by_cases hc : l = kl
    · subst hc; rw [Maps.atKey_del_same, if_pos (WideAt.sameKey_self hl)]; rfl
    · rw [Maps.atKey_del_other hc, h4 l z hl, if_neg (fun h => hc (WideAt.sameKey_eq h))]
/-- 'len(m)' -/
theorem MapIs.len {w : World} {P : Program} {k e t : TypeId} {b n c : Nat} {f : Lit → Option Value} (h : MapIs w P k b n c f) (ht : P.underlying t = some (.map k e)) (ty : TypeId) : (Builtin.len_ #[t] ty #[.map (some b)]).run P w = .ok (.int .i64 c) w := by
  obtain ⟨D, h1, h2, _⟩ := h
  rw [h1.len ht ty, h2]
/-- 'm[k] = v', at the operation -/
theorem wpList_mapStore {P : Program} (w : World) {ops : Array Oper} {rest : List Oper} {o : Oper} {a : Act} {Q : Exit → Act → World → Prop}
    (hg : o.guard = none) (m x v : Operand) (t : TypeId) (hop : o.op = Op.mapUpdate t m x v)
    (k e : TypeId) (K : Keyed P k) (ht : P.underlying t = some (.map k e)) (b n c : Nat) (f : Lit → Option Value)
    (hm : a.eval m = .map (some b)) (hown : MapIs w P k b n c f) (hn : n < maxLen) (key val : Value) (kl : Lit) (hx : a.eval x = key) (hv : a.eval v = val) (hkey : keyOf P k key = some kl) (hk : WideAt.IsKeyLit kl)
    (hK : ∀ w', MapIs w' P k b (n + 1) (if (f kl).isSome then c else c + 1) (fun l => if l.sameKey kl = true then some val else f l) → w.grownBy w' (some b) → wpList P ops Q rest (a.put o.dst undef) w') :
    wpList P ops Q (o :: rest) a w := by
  refine wpList_plain hg fun K' hK' => ?_
  obtain ⟨w', hrun, r1, r2⟩ := hown.store K ht hn val hkey hk
  unfold Oper.wp
  simp [execOp, hop, hm, hx, hv, hrun, Result.andThen]
  exact hK' _ _ (hK w' r1 r2)
end Go.Proofs.YtjfmkfhjbdiojaaGreat

namespace Go.Proofs.YtjfmkfhjbdiojaaGreat
set_option linter.unusedSimpArgs false
set_option linter.unusedVariables false
open Go.RowKit Go.Maps

/-- of what was there, these blocks alone may have turned -/
structure OnlyL (qs : List Nat) (w w' : World) : Prop where
  os : w'.os = w.os
  tape : w'.tape = w.tape
  output : w'.output = w.output
  size : w.heap.size ≤ w'.heap.size
  block : ∀ k, k < w.heap.size → k ∉ qs → w'.heap[k]? = w.heap[k]?
theorem OnlyL.refl (qs : List Nat) (w : World) : OnlyL qs w w := ⟨rfl, rfl, rfl, Nat.le_refl _, fun _ _ _ => rfl⟩
theorem OnlyL.trans {qs : List Nat} {a b c : World} (h : OnlyL qs a b) (k : OnlyL qs b c) : OnlyL qs a c :=
  ⟨k.os.trans h.os, k.tape.trans h.tape, k.output.trans h.output, Nat.le_trans h.size k.size, fun j hj hq => (k.block j (Nat.lt_of_lt_of_le hj h.size) hq).trans (h.block j hj hq)⟩
theorem OnlyL.of_below {qs : List Nat} {a b : World} (h : Below a.heap.size a b) : OnlyL qs a b := ⟨h.os, h.tape, h.output, h.size, fun k hk _ => h.block k hk⟩
theorem OnlyL.of_only {q : Nat} {qs : List Nat} {a b : World} (h : Only q a b) (hq : q ∈ qs) : OnlyL qs a b := ⟨h.os, h.tape, h.output, h.size, fun k hk hn => h.block k hk (fun e => hn (e ▸ hq))⟩
theorem OnlyL.to_only {q : Nat} {a b : World} (h : OnlyL [q] a b) : Only q a b := ⟨h.os, h.tape, h.output, h.size, fun k hk hn => h.block k hk (by simpa using hn)⟩
theorem OnlyL.setCell {qs : List Nat} {a : World} {q : Nat} (hq : q ∈ qs) (j : Nat) (v : Value) : OnlyL qs a (a.setCell ⟨q, j, none⟩ v) := .of_only (Only.setCell q j v) hq
theorem OnlyL.alloc {qs : List Nat} {a b : World} (h : OnlyL qs a b) (o : Obj) : OnlyL qs a (b.alloc o) := h.trans (.of_below ((Below.refl _ _).alloc (Nat.le_refl _) _))
theorem OnlyL.drew {qs : List Nat} {a b : World} (h : OnlyL qs a b) : OnlyL qs a b.drew := ⟨h.os, h.tape, h.output, h.size, h.block⟩
theorem OnlyL.drewN {qs : List Nat} {a b : World} (h : OnlyL qs a b) (n : Nat) : OnlyL qs a (b.drewN n) := ⟨h.os, h.tape, h.output, h.size, h.block⟩
theorem OnlyL.mono {qs rs : List Nat} {a b : World} (h : OnlyL qs a b) (hs : ∀ q ∈ qs, q ∈ rs) : OnlyL rs a b := ⟨h.os, h.tape, h.output, h.size, fun k hk hn => h.block k hk (fun e => hn (hs k e))⟩
theorem OnlyL.below {qs : List Nat} {B : Nat} {a b c : World} (h : OnlyL qs b c) (k : Below B a b) (hB : ∀ q ∈ qs, B ≤ q) (hs : B ≤ b.heap.size) : Below B a c :=
  k.trans ⟨h.os, h.tape, h.output, h.size, fun j hj => h.block j (by omega) (fun e => by have := hB j e; omega)⟩
theorem OnlyL.box {qs : List Nat} {w w1 : World} {o : Obj} (h : OnlyL qs (w.alloc o) w1) : OnlyL qs w w1 := ((OnlyL.refl qs w).alloc o).trans h
theorem OnlyL.cell {qs : List Nat} {w w' : World} (h : OnlyL qs w w') {b o : Nat} (hb : b < w.heap.size) (hq : b ∉ qs) : w'.cell? ⟨b, o, none⟩ = w.cell? ⟨b, o, none⟩ := by
  simp only [World.cell?, h.block b hb hq]
/-- what the callee made is the caller's to turn -/
theorem OnlyL.new {qs rs : List Nat} {a b c : World} (h : OnlyL qs a b) (k : OnlyL rs b c) (hr : ∀ r ∈ rs, r ∈ qs ∨ a.heap.size ≤ r) : OnlyL qs a c :=
  ⟨k.os.trans h.os, k.tape.trans h.tape, k.output.trans h.output, Nat.le_trans h.size k.size, fun j hj hq => (k.block j (Nat.lt_of_lt_of_le hj h.size) (fun e => by
    rcases hr j e with h1 | h1
    · exact hq h1
    · omega)).trans (h.block j hj hq)⟩

/-- a quiet callee, inside a region that draws its order -/
theorem quiet_eq {P : Program} {f : FuncId} {args : Array Value} {w : World} {n : Nat} {v : Value} (h : Calls P f args (w.drewN n) fun e w' => e = .returned v ∧ w.drewN n = w') : Calls P f args (w.drewN n) fun e w'' => e = .returned v ∧ ∃ m, w'' = w.drewN m :=
  h.mono fun _ _ ⟨he, hm⟩ => ⟨he, n, hm.symm⟩
theorem MapIs.tight {w : World} {P : Program} {k : TypeId} {b n c : Nat} {f : Lit → Option Value} (h : MapIs w P k b n c f) : MapIs w P k b c c f := by
  obtain ⟨D, ⟨es, clock, h1, h2, h3, h4⟩, h5, h6⟩ := h
  refine ⟨D, ⟨es, clock, h1, h2, ?_, h4⟩, h5, h6⟩
  rw [← h5, h4, Maps.size_eq, length_read]
  exact Nat.le_refl _
theorem MapIs.onlyL {w w' : World} {P : Program} {k : TypeId} {b n c : Nat} {qs : List Nat} {f : Lit → Option Value} (h : MapIs w P k b n c f) (hb : OnlyL qs w w') (hq : b ∉ qs) : MapIs w' P k b n c f := h.kept (hb.block b h.lt hq)
/-- 'delete(m, k)', at the operation -/
theorem wpList_mapDrop {P : Program} (w : World) {ops : Array Oper} {rest : List Oper} {o : Oper} {a : Act} {Q : Exit → Act → World → Prop}
    (hg : o.guard = none) (m x : Operand) (t k : TypeId) (hop : o.op = Op.call { callee := Callee.builtin Builtin.delete, args := #[m, x], argTypes := #[t, k] })
    (e : TypeId) (K : Keyed P k) (ht : P.underlying t = some (.map k e)) (b n c : Nat) (f : Lit → Option Value)
    (hm : a.eval m = .map (some b)) (hown : MapIs w P k b n c f) (key : Value) (kl : Lit) (hx : a.eval x = key) (hkey : keyOf P k key = some kl) (hk : WideAt.IsKeyLit kl)
    (hK : ∀ w', MapIs w' P k b n (c - if (f kl).isSome then 1 else 0) (fun l => if l.sameKey kl = true then none else f l) → w.grownBy w' (some b) → wpList P ops Q rest (a.put o.dst (.tuple #[])) w') :
    wpList P ops Q (o :: rest) a w := by
  refine wpList_plain hg fun K' hK' => ?_
  obtain ⟨w', hrun, r1, r2⟩ := hown.drop K ht hkey hk o.type
  unfold Oper.wp
  simp [execOp, hop, resolve, invoke, builtin, hm, hx, hrun, Result.andThen]
  exact hK' _ _ (hK w' r1 r2)
/-- 'len(m)', at the operation -/
theorem wpList_mapLen {P : Program} (w : World) {ops : Array Oper} {rest : List Oper} {o : Oper} {a : Act} {Q : Exit → Act → World → Prop}
    (hg : o.guard = none) (m : Operand) (t : TypeId) (hop : o.op = Op.call { callee := Callee.builtin Builtin.len, args := #[m], argTypes := #[t] })
    (k e : TypeId) (ht : P.underlying t = some (.map k e)) (b n c : Nat) (f : Lit → Option Value) (hm : a.eval m = .map (some b)) (hown : MapIs w P k b n c f)
    (hK : wpList P ops Q rest (a.put o.dst (.int .i64 c)) w) :
    wpList P ops Q (o :: rest) a w := by
  refine wpList_plain hg fun K' hK' => ?_
  unfold Oper.wp
  simp [execOp, hop, resolve, invoke, builtin, hm, hown.len ht o.type, Result.andThen]
  exact hK' _ _ hK
/-- rows of zeros -/
theorem made_rows (z : List Value) (k n : Nat) (hz : z.length = k) (hk : 0 < k) : madeCells z.toArray (n * k) = ((List.replicate n ()).flatMap fun _ => z).toArray := by
  apply Array.toList_inj.1
  apply List.ext_getElem?
  intro j
  by_cases hj : j < n * k
  · have h1 : (madeCells z.toArray (n * k)).toList[j]? = some (z[j % k]'(by rw [hz]; exact Nat.mod_lt _ hk)) := by
      simp only [madeCells, Array.toList_map, Array.toList_range, List.getElem?_map, List.getElem?_range hj, Option.map_some]
      have : j % k < z.length := by rw [hz]; exact Nat.mod_lt _ hk
      simp [hz]
      rw [List.getElem?_eq_getElem this]
      rfl
    have hjk : j / k < n := by rw [Nat.div_lt_iff_lt_mul hk]; exact hj
    have h2 := flat_at (fun _ : Unit => z) k (fun _ => hz) () (List.replicate n ()) (j / k) (j % k) (by simpa using hjk) (Nat.mod_lt _ hk)
    rw [show j / k * k + j % k = j by rw [Nat.mul_comm]; exact Nat.div_add_mod j k] at h2
    rw [h1]
    rw [show ((List.replicate n ()).flatMap fun _ => z).toArray.toList = (List.replicate n ()).flatMap fun _ => z from rfl, h2]
    exact (List.getElem?_eq_getElem _).symm
  · rw [List.getElem?_eq_none (by simp [size_madeCells]; omega), List.getElem?_eq_none (by simp [hz]; omega)]
theorem run_make_rows {P : Program} (t e : TypeId) {z : Value} {B k : Nat} (zl : List Value) (ht : P.underlying t = some (.slice e)) (hinf : (P.info? e).map (fun i => (i.zero, i.size, i.bytes)) = some (some z, k, B)) (hz : z.cells = zl.toArray) (hk : zl.length = k) (h0 : 0 < k) (n : Nat) (hb : B * n ≤ 281474976710656) (hm : n ≤ 9223372036854775807) (w : World) :
    (Instr.makeSlice t (.int .i64 (n : Int)) (.int .i64 (n : Int))).run P w = .ok (.slice (some ⟨w.heap.size, 0, none⟩) n n) (w.alloc (.cells ((List.replicate n ()).flatMap fun _ => zl).toArray e)) := by
  obtain ⟨i, hi, hiz, hs, hbb⟩ := info_parts hinf
  have hb' : (i.bytes : Int) * (n : Int) ≤ 281474976710656 := by
    have h : ((i.bytes * n : Nat) : Int) ≤ 281474976710656 := by rw [hbb]; omega
    rwa [Int.natCast_mul] at h
  have hr := run_make (P := P) w t e i _ ht hi hiz .i64 .i64 n n (by omega) (Int.le_refl _) hb' (by omega)
  rw [hs, Int.toNat_natCast] at hr
  rw [hr, hz, made_rows zl k n hk h0]
end Go.Proofs.YtjfmkfhjbdiojaaGreat

namespace Go.Proofs.YtjfmkfhjbdiojaaGreat
set_option linter.unusedSimpArgs false
set_option linter.unusedVariables false
open Go.RowKit

section
variable {P : Program} (w : World)
theorem run_append_own2 (base : Nat) (t ty e : TypeId) (i : TypeInfo) (z : Value) (size bytes : Nat) (ht : P.underlying t = some (.slice e)) (hi : P.info? e = some i) (hz : i.zero = some z)
    (hsize : i.size = size) (hby : i.bytes = bytes) (hzs : z.cells.size = size) (hsz : 0 < size)
    (v : Value) (n : Nat) (xs : List Value) (hown : w.ownsRow base e size v n xs)
    (a : Addr) (m c : Nat) (hm : 0 < m) (news : List Value) (hl : news.length = m * size) (hnews : ∀ j u, news[j]? = some u → w.cell? (a.add j) = some u) (h1 : ∀ u ∈ news, u.oneCell' = true)
    (h63 : n + m ≤ maxLen) (hbytes : (n + m) * bytes ≤ 140737488355328) (hbase : base ≤ w.heap.size) :
    ∃ v' w', (Builtin.append_ #[t, t] ty #[v, .slice (some a) m c]).run P w = .ok v' w' ∧ w'.ownsRow base e size v' (n + m) (xs ++ news) ∧ w.grownBy w' v.ownBlock ∧
      (∃ g c', v' = .slice (some ⟨g, 0, none⟩) (n + m) c' ∧ (v.ownBlock = some g ∨ w.heap.size ≤ g)) := by
  obtain ⟨v', w', hr, h2, h3, -⟩ := run_append_own (P := P) w base t ty e i z size bytes ht hi hz hsize hby hzs hsz v n xs hown a m c news hl hnews h1 h63 hbytes hbase
  refine ⟨v', w', hr, h2, h3, ?_⟩
  subst hsize
  subst hby
  have hsmall : n + m ≤ 9223372036854775807 := by simp only [maxLen] at h63; omega
  rcases hown.2 with ⟨rfl, rfl⟩ | ⟨g, cap, cur, rfl, hbg, hg, hnc, hcm, hcs, htake⟩
  · have hr2 := run_append_nil (P := P) w t ty e i z ht hi hz a m c news hl hnews (by omega) (by omega) (by have hb := hbytes; simp only [Nat.zero_add] at hb; omega)
    rw [hr2] at hr
    simp only [Result.ok.injEq] at hr
    exact ⟨_, _, by rw [← hr.1, Nat.zero_add], .inr (Nat.le_refl _)⟩
  · by_cases hroom : n + m ≤ cap
    · have hfit : n * i.size + news.length ≤ cur.size := by rw [hl, hcs, ← Nat.add_mul]; exact Nat.mul_le_mul_right _ hroom
      have hr2 := run_append_room (P := P) w t ty e i ht hi g n cap cur hg a m c news hl hnews h1 hroom hfit
      rw [hr2] at hr
      simp only [Result.ok.injEq] at hr
      exact ⟨_, _, hr.1.symm, .inl rfl⟩
    · have holds : ∀ j u, xs[j]? = some u → w.cell? ((⟨g, 0, none⟩ : Addr).add j) = some u := hown.cells (g := g) rfl
      have hr2 := run_append_grow (P := P) w t ty e i z ht hi hz ⟨g, 0, none⟩ n cap xs hown.1 holds a m c news hl hnews (by omega) (by omega) (growslice_fits (by omega) hbytes)
      rw [hr2] at hr
      simp only [Result.ok.injEq] at hr
      exact ⟨_, _, hr.1.symm, .inr (Nat.le_refl _)⟩
theorem wp_append_own2 {o : Oper} {a : Act} {K : Act → World → Prop} {Q : Exit → Act → World → Prop} (s x : Operand) (t : TypeId)
    (ho : o.op = .call { callee := .builtin .append, args := #[s, x], argTypes := #[t, t] })
    (base : Nat) (e : TypeId) (i : TypeInfo) (z : Value) (size bytes : Nat) (ht : P.underlying t = some (.slice e)) (hi : P.info? e = some i) (hz : i.zero = some z)
    (hsize : i.size = size) (hby : i.bytes = bytes) (hzs : z.cells.size = size) (hsz : 0 < size)
    (v : Value) (n : Nat) (xs : List Value) (hs : a.eval s = v) (hown : w.ownsRow base e size v n xs)
    (ad : Addr) (m c : Nat) (hm : 0 < m) (news : List Value) (hx : a.eval x = .slice (some ad) m c) (hl : news.length = m * size) (hnews : ∀ j u, news[j]? = some u → w.cell? (ad.add j) = some u) (h1 : ∀ u ∈ news, u.oneCell' = true)
    (h63 : n + m ≤ maxLen) (hbytes : (n + m) * bytes ≤ 140737488355328) (hbase : base ≤ w.heap.size)
    (h : ∀ g c' w', w'.ownsRow base e size (.slice (some ⟨g, 0, none⟩) (n + m) c') (n + m) (xs ++ news) → w.grownBy w' v.ownBlock → (v.ownBlock = some g ∨ w.heap.size ≤ g) → K (a.put o.dst (.slice (some ⟨g, 0, none⟩) (n + m) c')) w') : o.wp P a w K Q := by
  obtain ⟨v', w', hr, h2, h3, g, c', rfl, h4⟩ := run_append_own2 (P := P) w base t o.type e i z size bytes ht hi hz hsize hby hzs hsz v n xs hown ad m c hm news hl hnews h1 h63 hbytes hbase
  unfold Oper.wp execOp
  simp only [ho, resolve, invoke, builtin, Sem.run_bind, Sem.run_pure, Result.andThen_ok, List.map_toArray, List.map_cons, List.map_nil, hs, hx, hr]
  exact h g c' w' h2 h3 h4
theorem wpList_append_own2 {ops : Array Oper} {rest : List Oper} {o : Oper} {a : Act} {Q : Exit → Act → World → Prop} (hgd : o.guard = none) (s x : Operand) (t : TypeId)
    (ho : o.op = .call { callee := .builtin .append, args := #[s, x], argTypes := #[t, t] })
    (base : Nat) (e : TypeId) (i : TypeInfo) (z : Value) (size bytes : Nat) (ht : P.underlying t = some (.slice e)) (hi : P.info? e = some i) (hz : i.zero = some z)
    (hsize : i.size = size) (hby : i.bytes = bytes) (hzs : z.cells.size = size) (hsz : 0 < size)
    (v : Value) (n : Nat) (xs : List Value) (hs : a.eval s = v) (hown : w.ownsRow base e size v n xs)
    (ad : Addr) (m c : Nat) (hm : 0 < m) (news : List Value) (hx : a.eval x = .slice (some ad) m c) (hl : news.length = m * size) (hnews : ∀ j u, news[j]? = some u → w.cell? (ad.add j) = some u) (h1 : ∀ u ∈ news, u.oneCell' = true)
    (h63 : n + m ≤ maxLen) (hbytes : (n + m) * bytes ≤ 140737488355328) (hbase : base ≤ w.heap.size)
    (h : ∀ g c' w', w'.ownsRow base e size (.slice (some ⟨g, 0, none⟩) (n + m) c') (n + m) (xs ++ news) → w.grownBy w' v.ownBlock → (v.ownBlock = some g ∨ w.heap.size ≤ g) → wpList P ops Q rest (a.put o.dst (.slice (some ⟨g, 0, none⟩) (n + m) c')) w') : wpList P ops Q (o :: rest) a w :=
  wpList_plain hgd fun _ hK => wp_append_own2 w s x t ho base e i z size bytes ht hi hz hsize hby hzs hsz v n xs hs hown ad m c hm news hx hl hnews h1 h63 hbytes hbase fun g c' w' h2 h3 h4 => hK _ _ (h g c' w' h2 h3 h4)
end
theorem onlyL_of_grown {w w' : World} {o : Option Nat} (h : w.grownBy w' o) : OnlyL o.toList w w' := ⟨h.os, h.tape, h.output, h.size, fun k hk hq => h.block k hk (by intro e; rw [← e] at hq; exact hq (by simp))⟩
/-- the cells of a row that a call laid in a block of its own -/
theorem cells_new {W : World} {b : Nat} {l : List Value} {t : TypeId} {fr : Nat × Nat} (h : W.heap[b]? = some (.cells l.toArray t fr)) : ∀ (j : Nat) (u : Value), l[j]? = some u → W.cell? ((⟨b, 0, none⟩ : Addr).add j) = some u := by
  intro j u hu
  have e : (⟨b, 0, none⟩ : Addr).add j = ⟨b, j, none⟩ := by rw [Go.WideShapes.add_plain, Nat.zero_add]
  rw [e, cell_of_block h]
  simpa using hu
end Go.Proofs.YtjfmkfhjbdiojaaGreat
