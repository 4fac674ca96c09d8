/-
  General lemmas of this project's own, ninth part: worlds in which some old blocks alone may have turned; maps whose count is known; 'delete' at the operation.
-/
import Derived.Test.YtnnggchkdffpnaaDoorKitM
namespace Go.Proofs.YtnnggchkdffpnaaDoor
set_option linter.unusedSimpArgs false
set_option linter.unusedVariables false
open Go.RowKit Go.Maps

/-- of what was there, these blocks alone may have turned -/
structure OnlyL (qs : List Nat) (w w' : World) : Prop where
  os : w'.os = w.os
  tape : w'.tape = w.tape
  output : w'.output = w.output
  size : w.heap.size ≤ w'.heap.size
  block : ∀ k, k < w.heap.size → k ∉ qs → w'.heap[k]? = w.heap[k]?
theorem OnlyL.refl (qs : List Nat) (w : World) : OnlyL qs w w := ⟨rfl, rfl, rfl, Nat.le_refl _, fun _ _ _ => rfl⟩
theorem OnlyL.trans {qs : List Nat} {a b c : World} (h : OnlyL qs a b) (k : OnlyL qs b c) : OnlyL qs a c :=
  ⟨k.os.trans h.os, k.tape.trans h.tape, k.output.trans h.output, Nat.le_trans h.size k.size, fun j hj hq => (k.block j (Nat.lt_of_lt_of_le hj h.size) hq).trans (h.block j hj hq)⟩
theorem OnlyL.of_below {qs : List Nat} {a b : World} (h : Below a.heap.size a b) : OnlyL qs a b := ⟨h.os, h.tape, h.output, h.size, fun k hk _ => h.block k hk⟩
theorem OnlyL.of_only {q : Nat} {qs : List Nat} {a b : World} (h : Only q a b) (hq : q ∈ qs) : OnlyL qs a b := ⟨h.os, h.tape, h.output, h.size, fun k hk hn => h.block k hk (fun e => hn (e ▸ hq))⟩
theorem OnlyL.to_only {q : Nat} {a b : World} (h : OnlyL [q] a b) : Only q a b := ⟨h.os, h.tape, h.output, h.size, fun k hk hn => h.block k hk (by simpa using hn)⟩
theorem OnlyL.setCell {qs : List Nat} {a : World} {q : Nat} (hq : q ∈ qs) (j : Nat) (v : Value) : OnlyL qs a (a.setCell ⟨q, j, none⟩ v) := .of_only (Only.setCell q j v) hq
theorem OnlyL.alloc {qs : List Nat} {a b : World} (h : OnlyL qs a b) (o : Obj) : OnlyL qs a (b.alloc o) := h.trans (.of_below ((Below.refl _ _).alloc (Nat.le_refl _) _))
theorem OnlyL.drew {qs : List Nat} {a b : World} (h : OnlyL qs a b) : OnlyL qs a b.drew := ⟨h.os, h.tape, h.output, h.size, h.block⟩
theorem OnlyL.drewN {qs : List Nat} {a b : World} (h : OnlyL qs a b) (n : Nat) : OnlyL qs a (b.drewN n) := ⟨h.os, h.tape, h.output, h.size, h.block⟩
theorem OnlyL.mono {qs rs : List Nat} {a b : World} (h : OnlyL qs a b) (hs : ∀ q ∈ qs, q ∈ rs) : OnlyL rs a b := ⟨h.os, h.tape, h.output, h.size, fun k hk hn => h.block k hk (fun e => hn (hs k e))⟩
theorem OnlyL.below {qs : List Nat} {B : Nat} {a b c : World} (h : OnlyL qs b c) (k : Below B a b) (hB : ∀ q ∈ qs, B ≤ q) (hs : B ≤ b.heap.size) : Below B a c :=
  k.trans ⟨h.os, h.tape, h.output, h.size, fun j hj => h.block j (by omega) (fun e => by have := hB j e; omega)⟩
theorem OnlyL.box {qs : List Nat} {w w1 : World} {o : Obj} (h : OnlyL qs (w.alloc o) w1) : OnlyL qs w w1 := ((OnlyL.refl qs w).alloc o).trans h
theorem OnlyL.cell {qs : List Nat} {w w' : World} (h : OnlyL qs w w') {b o : Nat} (hb : b < w.heap.size) (hq : b ∉ qs) : w'.cell? ⟨b, o, none⟩ = w.cell? ⟨b, o, none⟩ := by
  simp only [World.cell?, h.block b hb hq]
/-- what the callee made is the caller's to turn -/
theorem OnlyL.new {qs rs : List Nat} {a b c : World} (h : OnlyL qs a b) (k : OnlyL rs b c) (hr : ∀ r ∈ rs, r ∈ qs ∨ a.heap.size ≤ r) : OnlyL qs a c :=
  ⟨k.os.trans h.os, k.tape.trans h.tape, k.output.trans h.output, Nat.le_trans h.size k.size, fun j hj hq => (k.block j (Nat.lt_of_lt_of_le hj h.size) (fun e => by
    rcases hr j e with h1 | h1
    · exact hq h1
    · omega)).trans (h.block j hj hq)⟩

/-- a quiet callee, inside a region that draws its order -/
theorem quiet_eq {P : Program} {f : FuncId} {args : Array Value} {w : World} {n : Nat} {v : Value} (h : Calls P f args (w.drewN n) fun e w' => e = .returned v ∧ w.drewN n = w') : Calls P f args (w.drewN n) fun e w'' => e = .returned v ∧ ∃ m, w'' = w.drewN m :=
  h.mono fun _ _ ⟨he, hm⟩ => ⟨he, n, hm.symm⟩
theorem MapIs.tight {w : World} {P : Program} {k : TypeId} {b n c : Nat} {f : Lit → Option Value} (h : MapIs w P k b n c f) : MapIs w P k b c c f := by
  obtain ⟨D, ⟨es, clock, h1, h2, h3, h4⟩, h5, h6⟩ := h
  refine ⟨D, ⟨es, clock, h1, h2, ?_, h4⟩, h5, h6⟩
  rw [← h5, h4, Maps.size_eq, length_read]
  exact Nat.le_refl _
theorem MapIs.onlyL {w w' : World} {P : Program} {k : TypeId} {b n c : Nat} {qs : List Nat} {f : Lit → Option Value} (h : MapIs w P k b n c f) (hb : OnlyL qs w w') (hq : b ∉ qs) : MapIs w' P k b n c f := h.kept (hb.block b h.lt hq)
/-- 'delete(m, k)', at the operation -/
theorem wpList_mapDrop {P : Program} (w : World) {ops : Array Oper} {rest : List Oper} {o : Oper} {a : Act} {Q : Exit → Act → World → Prop}
    (hg : o.guard = none) (m x : Operand) (t k : TypeId) (hop : o.op = Op.call { callee := Callee.builtin Builtin.delete, args := #[m, x], argTypes := #[t, k] })
    (e : TypeId) (K : Keyed P k) (ht : P.underlying t = some (.map k e)) (b n c : Nat) (f : Lit → Option Value)
    (hm : a.eval m = .map (some b)) (hown : MapIs w P k b n c f) (key : Value) (kl : Lit) (hx : a.eval x = key) (hkey : keyOf P k key = some kl) (hk : WideAt.IsKeyLit kl)
    (hK : ∀ w', MapIs w' P k b n (c - if (f kl).isSome then 1 else 0) (fun l => if l.sameKey kl = true then none else f l) → w.grownBy w' (some b) → wpList P ops Q rest (a.put o.dst (.tuple #[])) w') :
    wpList P ops Q (o :: rest) a w := by
  refine wpList_plain hg fun K' hK' => ?_
  obtain ⟨w', hrun, r1, r2⟩ := hown.drop K ht hkey hk o.type
  unfold Oper.wp
  simp [execOp, hop, resolve, invoke, builtin, hm, hx, hrun, Result.andThen]
  exact hK' _ _ (hK w' r1 r2)
/-- 'len(m)', at the operation -/
theorem wpList_mapLen {P : Program} (w : World) {ops : Array Oper} {rest : List Oper} {o : Oper} {a : Act} {Q : Exit → Act → World → Prop}
    (hg : o.guard = none) (m : Operand) (t : TypeId) (hop : o.op = Op.call { callee := Callee.builtin Builtin.len, args := #[m], argTypes := #[t] })
    (k e : TypeId) (ht : P.underlying t = some (.map k e)) (b n c : Nat) (f : Lit → Option Value) (hm : a.eval m = .map (some b)) (hown : MapIs w P k b n c f)
    (hK : wpList P ops Q rest (a.put o.dst (.int .i64 c)) w) :
    wpList P ops Q (o :: rest) a w := by
  refine wpList_plain hg fun K' hK' => ?_
  unfold Oper.wp
  simp [execOp, hop, resolve, invoke, builtin, hm, hown.len ht o.type, Result.andThen]
  exact hK' _ _ hK
/-- rows of zeros -/
theorem made_rows (z : List Value) (k n : Nat) (hz : z.length = k) (hk : 0 < k) : madeCells z.toArray (n * k) = ((List.replicate n ()).flatMap fun _ => z).toArray := by
  apply Array.toList_inj.1
  apply List.ext_getElem?
  intro j
  by_cases hj : j < n * k
  · have h1 : (madeCells z.toArray (n * k)).toList[j]? = some (z[j % k]'(by rw [hz]; exact Nat.mod_lt _ hk)) := by
      simp only [madeCells, Array.toList_map, Array.toList_range, List.getElem?_map, List.getElem?_range hj, Option.map_some]
      have : j % k < z.length := by rw [hz]; exact Nat.mod_lt _ hk
      simp [hz]
      rw [List.getElem?_eq_getElem this]
      rfl
    have hjk : j / k < n := by rw [Nat.div_lt_iff_lt_mul hk]; exact hj
    have h2 := flat_at (fun _ : Unit => z) k (fun _ => hz) () (List.replicate n ()) (j / k) (j % k) (by simpa using hjk) (Nat.mod_lt _ hk)
    rw [show j / k * k + j % k = j by rw [Nat.mul_comm]; exact Nat.div_add_mod j k] at h2
    rw [h1]
    rw [show ((List.replicate n ()).flatMap fun _ => z).toArray.toList = (List.replicate n ()).flatMap fun _ => z from rfl, h2]
    exact (List.getElem?_eq_getElem _).symm
  · rw [List.getElem?_eq_none (by simp [size_madeCells]; omega), List.getElem?_eq_none (by simp [hz]; omega)]
theorem run_make_rows {P : Program} (t e : TypeId) {z : Value} {B k : Nat} (zl : List Value) (ht : P.underlying t = some (.slice e)) (hinf : (P.info? e).map (fun i => (i.zero, i.size, i.bytes)) = some (some z, k, B)) (hz : z.cells = zl.toArray) (hk : zl.length = k) (h0 : 0 < k) (n : Nat) (hb : B * n ≤ 281474976710656) (hm : n ≤ 9223372036854775807) (w : World) :
    (Instr.makeSlice t (.int .i64 (n : Int)) (.int .i64 (n : Int))).run P w = .ok (.slice (some ⟨w.heap.size, 0, none⟩) n n) (w.alloc (.cells ((List.replicate n ()).flatMap fun _ => zl).toArray e)) := by
  obtain ⟨i, hi, hiz, hs, hbb⟩ := info_parts hinf
  have hb' : (i.bytes : Int) * (n : Int) ≤ 281474976710656 := by
    have h : ((i.bytes * n : Nat) : Int) ≤ 281474976710656 := by rw [hbb]; omega
    rwa [Int.natCast_mul] at h
  have hr := run_make (P := P) w t e i _ ht hi hiz .i64 .i64 n n (by omega) (Int.le_refl _) hb' (by omega)
  rw [hs, Int.toNat_natCast] at hr
  rw [hr, hz, made_rows zl k n hk h0]
end Go.Proofs.YtnnggchkdffpnaaDoor
