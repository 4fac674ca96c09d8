/-
  Layer 26: what a play of shifts keeps in memory.
-/
import Derived.Test.YtfdgfeohmkdnoaaShS
import Derived.Test.YtfdgfeohmkdnoaaShW2
import Derived.Test.YtfdgfeohmkdnoaaRShT2
import Derived.Test.YtfdgfeohmkdnoaaShK
--import Derived.Test.Zdbg
namespace Go.Proofs.Ytfdgfeohmkdnoaa
set_option linter.unusedSimpArgs false
set_option linter.unusedVariables false
open Go.RowKit Go.WideShapes Go.ChangeShapes Go.ChangeAt Go.Deep

theorem only_keeps {Ts : List TypeId} {b : Nat} {w w' : World} {c : Array Value} {t : TypeId} {fz : Nat × Nat} (h : w.heap[b]? = some (.cells c t fz)) (ht : t ∈ Ts) (ho : Only b w w') : KeepsT Ts w w' := fun k o hk hn => by
  by_cases e : k = b
  · subst e
    rw [h] at hk
    exact absurd ht (hn _ _ _ (Option.some.inj hk).symm)
  · exact (ho.block k (heap_lt hk) e).trans hk
set_option maxHeartbeats 1000000 in
theorem ten_set {w : World} {b : Nat} {T : TypeId} {c0 c1 c2 c3 c4 c5 c6 c7 c8 c9 : Value} (v0 v1 v2 v3 v4 v5 v6 v7 v8 v9 : Value) (h : w.heap[b]? = some (.cells #[c0, c1, c2, c3, c4, c5, c6, c7, c8, c9] T (0, 0))) :
    ((((((((((w.setCell ⟨b, 0, none⟩ (v0)).setCell ⟨b, 1, none⟩ (v1)).setCell ⟨b, 2, none⟩ (v2)).setCell ⟨b, 3, none⟩ (v3)).setCell ⟨b, 4, none⟩ (v4)).setCell ⟨b, 5, none⟩ (v5)).setCell ⟨b, 6, none⟩ (v6)).setCell ⟨b, 7, none⟩ (v7)).setCell ⟨b, 8, none⟩ (v8)).setCell ⟨b, 9, none⟩ (v9)).heap[b]? = some (.cells #[v0, v1, v2, v3, v4, v5, v6, v7, v8, v9] T (0, 0)) ∧ Only b w ((((((((((w.setCell ⟨b, 0, none⟩ (v0)).setCell ⟨b, 1, none⟩ (v1)).setCell ⟨b, 2, none⟩ (v2)).setCell ⟨b, 3, none⟩ (v3)).setCell ⟨b, 4, none⟩ (v4)).setCell ⟨b, 5, none⟩ (v5)).setCell ⟨b, 6, none⟩ (v6)).setCell ⟨b, 7, none⟩ (v7)).setCell ⟨b, 8, none⟩ (v8)).setCell ⟨b, 9, none⟩ (v9)) := by
  refine ⟨?_, ?_⟩
  · have h0 := h
    have h1 : (w.setCell ⟨b, 0, none⟩ (v0)).heap[b]? = some (.cells #[v0, c1, c2, c3, c4, c5, c6, c7, c8, c9] T (0, 0)) := block_setCell h0 0 v0
    clear h0
    have h2 : ((w.setCell ⟨b, 0, none⟩ (v0)).setCell ⟨b, 1, none⟩ (v1)).heap[b]? = some (.cells #[v0, v1, c2, c3, c4, c5, c6, c7, c8, c9] T (0, 0)) := block_setCell h1 1 v1
    clear h1
    have h3 : (((w.setCell ⟨b, 0, none⟩ (v0)).setCell ⟨b, 1, none⟩ (v1)).setCell ⟨b, 2, none⟩ (v2)).heap[b]? = some (.cells #[v0, v1, v2, c3, c4, c5, c6, c7, c8, c9] T (0, 0)) := block_setCell h2 2 v2
    clear h2
    have h4 : ((((w.setCell ⟨b, 0, none⟩ (v0)).setCell ⟨b, 1, none⟩ (v1)).setCell ⟨b, 2, none⟩ (v2)).setCell ⟨b, 3, none⟩ (v3)).heap[b]? = some (.cells #[v0, v1, v2, v3, c4, c5, c6, c7, c8, c9] T (0, 0)) := block_setCell h3 3 v3
    clear h3
    have h5 : (((((w.setCell ⟨b, 0, none⟩ (v0)).setCell ⟨b, 1, none⟩ (v1)).setCell ⟨b, 2, none⟩ (v2)).setCell ⟨b, 3, none⟩ (v3)).setCell ⟨b, 4, none⟩ (v4)).heap[b]? = some (.cells #[v0, v1, v2, v3, v4, c5, c6, c7, c8, c9] T (0, 0)) := block_setCell h4 4 v4
    clear h4
    have h6 : ((((((w.setCell ⟨b, 0, none⟩ (v0)).setCell ⟨b, 1, none⟩ (v1)).setCell ⟨b, 2, none⟩ (v2)).setCell ⟨b, 3, none⟩ (v3)).setCell ⟨b, 4, none⟩ (v4)).setCell ⟨b, 5, none⟩ (v5)).heap[b]? = some (.cells #[v0, v1, v2, v3, v4, v5, c6, c7, c8, c9] T (0, 0)) := block_setCell h5 5 v5
    clear h5
    have h7 : (((((((w.setCell ⟨b, 0, none⟩ (v0)).setCell ⟨b, 1, none⟩ (v1)).setCell ⟨b, 2, none⟩ (v2)).setCell ⟨b, 3, none⟩ (v3)).setCell ⟨b, 4, none⟩ (v4)).setCell ⟨b, 5, none⟩ (v5)).setCell ⟨b, 6, none⟩ (v6)).heap[b]? = some (.cells #[v0, v1, v2, v3, v4, v5, v6, c7, c8, c9] T (0, 0)) := block_setCell h6 6 v6
    clear h6
    have h8 : ((((((((w.setCell ⟨b, 0, none⟩ (v0)).setCell ⟨b, 1, none⟩ (v1)).setCell ⟨b, 2, none⟩ (v2)).setCell ⟨b, 3, none⟩ (v3)).setCell ⟨b, 4, none⟩ (v4)).setCell ⟨b, 5, none⟩ (v5)).setCell ⟨b, 6, none⟩ (v6)).setCell ⟨b, 7, none⟩ (v7)).heap[b]? = some (.cells #[v0, v1, v2, v3, v4, v5, v6, v7, c8, c9] T (0, 0)) := block_setCell h7 7 v7
    clear h7
    have h9 : (((((((((w.setCell ⟨b, 0, none⟩ (v0)).setCell ⟨b, 1, none⟩ (v1)).setCell ⟨b, 2, none⟩ (v2)).setCell ⟨b, 3, none⟩ (v3)).setCell ⟨b, 4, none⟩ (v4)).setCell ⟨b, 5, none⟩ (v5)).setCell ⟨b, 6, none⟩ (v6)).setCell ⟨b, 7, none⟩ (v7)).setCell ⟨b, 8, none⟩ (v8)).heap[b]? = some (.cells #[v0, v1, v2, v3, v4, v5, v6, v7, v8, c9] T (0, 0)) := block_setCell h8 8 v8
    clear h8
    have h10 : ((((((((((w.setCell ⟨b, 0, none⟩ (v0)).setCell ⟨b, 1, none⟩ (v1)).setCell ⟨b, 2, none⟩ (v2)).setCell ⟨b, 3, none⟩ (v3)).setCell ⟨b, 4, none⟩ (v4)).setCell ⟨b, 5, none⟩ (v5)).setCell ⟨b, 6, none⟩ (v6)).setCell ⟨b, 7, none⟩ (v7)).setCell ⟨b, 8, none⟩ (v8)).setCell ⟨b, 9, none⟩ (v9)).heap[b]? = some (.cells #[v0, v1, v2, v3, v4, v5, v6, v7, v8, v9] T (0, 0)) := block_setCell h9 9 v9
    clear h9
    exact h10
  · have o := Only.refl b w
    have o := o.trans (Only.setCell b 0 v0)
    have o := o.trans (Only.setCell b 1 v1)
    have o := o.trans (Only.setCell b 2 v2)
    have o := o.trans (Only.setCell b 3 v3)
    have o := o.trans (Only.setCell b 4 v4)
    have o := o.trans (Only.setCell b 5 v5)
    have o := o.trans (Only.setCell b 6 v6)
    have o := o.trans (Only.setCell b 7 v7)
    have o := o.trans (Only.setCell b 8 v8)
    have o := o.trans (Only.setCell b 9 v9)
    exact o
theorem ShIs.keepsT {Ts : List TypeId} {w w' : World} {B p : Nat} {M : ShM} {v : Value} (h : ShIs w B p M v) (hk : KeepsT Ts w w') (h1 : 86 ∉ Ts) (h2 : 43 ∉ Ts) : ShIs w' B p M v := ⟨hk.cells h.head h1, hk.owns h.row h2, h.low, h.ok⟩
/-- the document's shifts in a block -/
def MdAt (w : World) (mb : Nat) (M : ShM) (nw : TotM) (a : Option Addr) (cp : Nat) : Prop := w.heap[mb]? = some (.cells #[.int .i64 M.keep, .int .i64 M.next, .bool M.op, .int .i64 nw.c, .int .i64 nw.s, .int .i64 nw.v, .int .i64 nw.r, .int .i64 nw.i, .int .i64 nw.o, .slice a M.L.length cp] 32 (0, 0)) ∧ RsIs w M nw a cp
theorem MdAt.below {w w' : World} {mb : Nat} {M : ShM} {nw : TotM} {a : Option Addr} {cp : Nat} (h : MdAt w mb M nw a cp) (hb : Below w.heap.size w w') : MdAt w' mb M nw a cp := ⟨(hb.block _ (heap_lt h.1)).trans h.1, h.2.below hb⟩
theorem MdAt.keepsT {Ts : List TypeId} {w w' : World} {mb : Nat} {M : ShM} {nw : TotM} {a : Option Addr} {cp : Nat} (h : MdAt w mb M nw a cp) (hk : KeepsT Ts w w') (h1 : 32 ∉ Ts) (h2 : 29 ∉ Ts) : MdAt w' mb M nw a cp := ⟨hk.cells h.1 h1, h.2.keepsT hk h2⟩
theorem MdAt.only {w w' : World} {mb nb : Nat} {M : ShM} {nw : TotM} {a : Option Addr} {cp : Nat} {c : Array Value} {fz : Nat × Nat} (h : MdAt w mb M nw a cp) (hn : w.heap[nb]? = some (.cells c 32 fz)) (ho : Only nb w w') (hne : mb ≠ nb) : MdAt w' mb M nw a cp := ⟨(ho.block mb (heap_lt h.1) hne).trans h.1, h.2.keepsT (only_keeps (Ts := [32]) hn (by decide) ho) (by decide)⟩
theorem reql_self (a b c d e f : Int) (w : World) : (binOp .eql 29 (.agg #[.int .i64 a, .int .i64 b, .int .i64 c, .int .i64 d, .int .i64 e, .int .i64 f]) (.agg #[.int .i64 a, .int .i64 b, .int .i64 c, .int .i64 d, .int .i64 e, .int .i64 f])).run Try.prog w = .ok (.bool true) w := by
  rw [run_eql_struct, eq_cells]
  simp
theorem rguard_eql (x y : Operand) (a b : Array Value) (w : World) : (eqGuard .eql 29 x y (.agg a) (.agg b)).run Try.prog w = .ok () w := run_eqGuard_agg w .eql 29 x y a b (by kernel_rfl)
theorem rs_ones (k n : Int) (b : Bool) (c s v r i o : Int) (a : Option Addr) (l cap : Nat) : (#[.int .i64 k, .int .i64 n, .bool b, .int .i64 c, .int .i64 s, .int .i64 v, .int .i64 r, .int .i64 i, .int .i64 o, .slice a l cap] : Array Value).all (·.oneCell') = true := by simp [Value.oneCell']
theorem ShIs.mono {w : World} {B B' p : Nat} {M : ShM} {v : Value} (h : ShIs w B p M v) (hB : B' ≤ B) : ShIs w B' p M v := ⟨h.head, owns_mono h.row hB, Nat.le_trans hB h.low, h.ok⟩
/-- the old ones have nothing to do with these -/
theorem old_apart {w w' : World} {q p B2 p2 : Nat} {M M2 : ShM} {V V2 : Value} {qs : List Nat} (hO : ShIs w B2 p2 M2 V2) (hq : ∀ z ∈ qs, z < B2) (ho : OnlyL qs w w') : ShIs w' B2 p2 M2 V2 :=
  hO.apart ho (fun hm => by have := hq _ hm; have := hO.low; omega) (fun g hg hm => by have := hq _ hm; have := (hO.row.lt g hg).1; omega)
end Go.Proofs.Ytfdgfeohmkdnoaa
