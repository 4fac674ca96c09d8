/-
  Layer 22: lines of a posting as values; total by whatever closure; On; ContainsFunc.
-/
import Derived.Test.YtbnbfnlfgmlcgaaCents8
import Derived.Test.YtbnbfnlfgmlcgaaKitO
--import Derived.Test.Zdbg
namespace Go.Proofs.Ytbnbfnlfgmlcgaa
set_option linter.unusedSimpArgs false
set_option linter.unusedVariables false
open Go.RowKit Go.WideShapes Go.ChangeShapes Go.ChangeAt Go.Deep

structure LnM where
  c : Int
  n : Int
deriving DecidableEq
def ln0 : LnM := ⟨0, 0⟩
def lnC (x : LnM) : List Value := [.int .i64 x.c, .int .i64 x.n]
theorem lnC_length (x : LnM) : (lnC x).length = 2 := rfl
theorem lnsC_length (L : List LnM) : (L.flatMap lnC).length = L.length * 2 := flat_length lnC 2 lnC_length L
theorem lnC_one (x : LnM) : ∀ u ∈ lnC x, u.oneCell' = true := by
  intro u hu
  simp [lnC] at hu
  rcases hu with rfl | rfl <;> rfl
def LnOk (x : LnM) : Prop := inR x.c ∧ inR x.n
/-- lines in memory -/
def LnIn (w : World) (a : Option Addr) (L : List LnM) : Prop := ∀ i, i < L.length → ∃ b off, a = some ⟨b, off, none⟩ ∧ b < w.heap.size ∧ w.cell? ⟨b, off + i * 2, none⟩ = some (.int .i64 (L.getD i ln0).c) ∧ w.cell? ⟨b, off + i * 2 + 1, none⟩ = some (.int .i64 (L.getD i ln0).n)
theorem LnIn.below {w w' : World} {a : Option Addr} {L : List LnM} (h : LnIn w a L) (hb : Below w.heap.size w w') : LnIn w' a L := fun i hi => by
  obtain ⟨b, off, ha, hbl, c0, c1⟩ := h i hi
  exact ⟨b, off, ha, Nat.lt_of_lt_of_le hbl hb.size, cell_keep c0 hbl hb, cell_keep c1 hbl hb⟩
theorem LnIn.take {w : World} {a : Option Addr} {L : List LnM} (h : LnIn w a L) (k : Nat) : LnIn w a (L.take k) := fun i hi => by
  rw [List.length_take] at hi
  obtain ⟨b, off, ha, hbl, c0, c1⟩ := h i (by omega)
  rw [show (L.take k).getD i ln0 = L.getD i ln0 by simp [List.getD, List.getElem?_take, show i < k by omega]]
  exact ⟨b, off, ha, hbl, c0, c1⟩
theorem LnIn.of_owns {w : World} {B e c : Nat} {a : Option Addr} {L : List LnM} (h : w.ownsRow B e 2 (.slice a L.length c) L.length (L.flatMap lnC)) : LnIn w a L := fun i hi => by
  obtain ⟨g, rfl, -, hg, hc⟩ := owns_rows lnC lnC_length ln0 h i hi
  refine ⟨g, 0, rfl, hg, ?_, ?_⟩
  · have h1 := hc 0 (by decide)
    rw [Nat.zero_add]
    exact h1
  · have h1 := hc 1 (by decide)
    rw [Nat.zero_add]
    exact h1
theorem ln_mem (L : List LnM) (k : Nat) (h : k < L.length) : L.getD k ln0 ∈ L := by simp [List.getD, h]
theorem ln_next (L : List LnM) (k : Nat) (h : k < L.length) : L.take (k + 1) = L.take k ++ [L.getD k ln0] := by
  rw [List.take_add_one, List.getElem?_eq_getElem h]
  simp [List.getD, h]
/-- a function with a body is entered -/
def Enters (f : FuncId) : Prop := ∀ (args : Array Value) (W : World), (callFunc f args).run Try.prog W = .ok (.enter f args) W
theorem enters {f : FuncId} {fn : Func} {c : Code} (hf : Try.prog.funcs[f]? = some fn) (hname : (fn.name == "runtime.NumGoroutine") = false) (hb : fn.body = some c) : Enters f := fun args W => by
  have h1 : fn.name ≠ "runtime.NumGoroutine" := by simpa using hname
  simp [callFunc, hf, h1, hb]
/-- what a closure tells of a line, wherever I holds -/
def Tells (f : FuncId) (ac : Array Value) (g : LnM → Bool) (I : World → Prop) : Prop := ∀ (x : LnM) W, I W → Calls Try.prog f (#[.agg #[.int .i64 x.c, .int .i64 x.n]] ++ ac) W fun e w' => e = .returned (.bool (g x)) ∧ Below W.heap.size W w'
def Keeps (I : World → Prop) (w : World) : Prop := ∀ W W', I W → w.heap.size ≤ W.heap.size → Below w.heap.size W W' → I W'
theorem Keeps.low {I : World → Prop} {w W W' : World} (h : Keeps I w) (hi : I W) (hs : w.heap.size ≤ W.heap.size) (hb : Below W.heap.size W W') : I W' := h W W' hi hs (hb.mono hs)
def wantN (g : LnM → Bool) (L : List LnM) : List Int := (L.filter g).map LnM.n
theorem wantN_next (g : LnM → Bool) (L : List LnM) (k : Nat) (h : k < L.length) : wantN g (L.take (k + 1)) = if g (L.getD k ln0) = true then wantN g (L.take k) ++ [(L.getD k ln0).n] else wantN g (L.take k) := by
  rw [ln_next L k h]
  unfold wantN
  rw [List.filter_append, List.map_append]
  by_cases hg : g (L.getD k ln0) = true
  · rw [if_pos hg, List.filter_cons_of_pos hg]; rfl
  · rw [if_neg hg, List.filter_cons_of_neg hg]; simp
theorem wantN_len (g : LnM → Bool) (L : List LnM) : (wantN g L).length ≤ L.length := by
  unfold wantN
  rw [List.length_map]
  exact List.length_filter_le g L
theorem wantN_in (g : LnM → Bool) (L : List LnM) (h : ∀ x ∈ L, inR x.n) : ∀ y ∈ wantN g L, inR y := by
  intro y hy
  unfold wantN at hy
  obtain ⟨x, hx, rfl⟩ := List.mem_map.1 hy
  exact h x (List.mem_filter.1 hx).1
end Go.Proofs.Ytbnbfnlfgmlcgaa
