/-
  Layer 28: replies as bytes: plain; the program's calls for the plain kinds.
-/
import Derived.Test.YtkbikflincjhhaaReq4

namespace Go.Proofs.Ytkbikflincjhhaa
set_option linter.unusedSimpArgs false
set_option linter.unusedVariables false
open Go.RowKit Go.WideShapes Go.ChangeShapes Go.ChangeAt Go.Deep
/-- a reply as a value -/
structure RpM where
  err : Int
  num : Int
  c : Int
  s : Int
  v : Int
  r : Int
  i : Int
  o : Int
  tn : Int
  tk : Int
  tsh : Int
  tr : Int
  ta : Int
  tl : Int
  tv : Bool
  L : List LnM
  a0 : Int
  a1 : Int
  rd : Bool
def rp0 : RpM := ⟨0, 0, 0, 0, 0, 0, 0, 0, 0, 0, 0, 0, 0, 0, false, [], 0, 0, false⟩
structure RpOk (x : RpM) : Prop where
  err : inR x.err
  num : inR x.num
  c : inR x.c
  s : inR x.s
  v : inR x.v
  r : inR x.r
  i : inR x.i
  o : inR x.o
  tn : inR x.tn
  tk : 0 ≤ x.tk ∧ x.tk ≤ 255
  tsh : inR x.tsh
  tr : inR x.tr
  ta : inR x.ta
  tl : inR x.tl
  L : ∀ y ∈ x.L, LnOk y
  few : x.L.length ≤ 20
  a0 : inR x.a0
  a1 : inR x.a1
def fit1 (x : Int) : Bool := decide (0 ≤ x ∧ x ≤ 255)
def fit5 (x : Int) : Bool := decide (0 ≤ x ∧ x ≤ 1099511627775)
def fl1 (b : Bool) : Nat := if b = true then 1 else 0
def totT (x : RpM) : List UInt8 := putL (wu x.c) 4 ++ (putL (wu x.s) 8 ++ (putL (wu x.v) 8 ++ (putL (wu x.r) 8 ++ (putL (wu x.i) 8 ++ putL (wu x.o) 8))))
/-- may what stands behind no error be? -/
def repOk (k : Nat) (x : RpM) : Bool :=
  if k = 10 ∨ k = 13 then true
  else if k = 11 then (fit4 x.tsh && fit4 x.tr) && textOk x.L
  else if k = 12 then fit4 x.c
  else if k = 14 then fit4 x.num && fit5 x.tn
  else if k = 3 then fit4 x.num && fit4 x.c
  else fit4 x.num
def repB (k : Nat) (x : RpM) : List UInt8 :=
  if k = 10 then putL (wu x.a0) 8
  else if k = 13 then putL (wu x.a0) 8 ++ putL (wu x.a1) 8
  else if k = 11 then putL x.tk.toNat 1 ++ (putL (wu x.tsh) 4 ++ (putL (wu x.tr) 4 ++ (putL (wu x.ta) 8 ++ (putL (wu x.tl) 8 ++ (putL (fl1 x.tv) 1 ++ poT x.L)))))
  else if k = 12 then totT x
  else if k = 14 then putL (wu x.num) 4 ++ (putL (wu x.tn) 5 ++ putL (fl1 x.rd) 1)
  else if k = 3 then putL (wu x.num) 4 ++ totT x
  else putL (wu x.num) 4
def rencOk (k : Nat) (x : RpM) : Bool := if x.err = 0 then repOk k x else fit1 x.err
def rencT (k : Nat) (x : RpM) : List UInt8 := putL (wu x.err) 1 ++ (if x.err = 0 then repB k x else [])
def Plain (k : Nat) : Prop := k = 1 ∨ k = 2 ∨ (4 ≤ k ∧ k ≤ 9)
theorem rep_plain {k : Nat} (h : Plain k) (x : RpM) : repOk k x = fit4 x.num ∧ repB k x = putL (wu x.num) 4 := by
  unfold Plain at h
  unfold repOk repB
  constructor
  · rw [if_neg (by omega), if_neg (by omega), if_neg (by omega), if_neg (by omega), if_neg (by omega)]
  · rw [if_neg (by omega), if_neg (by omega), if_neg (by omega), if_neg (by omega), if_neg (by omega), if_neg (by omega)]
theorem fit1_wu (c : Int) (h : inR c) : fitsB (wu c) 1 = fit1 c := by
  unfold fitsB fit1 wu
  rw [decide_eq_decide]
  show (1 ≤ (1 : Int) ∧ (1 : Int) ≤ 8 ∧ (IntKind.u64.wrap c).toNat < 256 ^ 1) ↔ _
  obtain ⟨h1, h2⟩ := h
  rw [IntKind.wrap_u64]
  constructor
  · rintro ⟨-, -, h3⟩; omega
  · intro h3; exact ⟨by decide, by decide, by omega⟩
theorem put1_wu (c : Int) : putS (IntKind.u64.wrap c) 1 = putL (wu c) 1 := by unfold putS wu; rw [if_pos (by decide)]; rfl
theorem row19_set {W : World} {A : Nat} {a0 a1 a2 a3 a4 a5 a6 a7 a8 a9 a10 a11 a12 a13 a14 a15 a16 a17 a18 x0 x1 x2 x3 x4 x5 x6 x7 x8 x9 x10 x11 x12 x13 x14 x15 x16 x17 x18 : Value} {t : TypeId} (h : W.heap[A]? = some (.cells #[a0, a1, a2, a3, a4, a5, a6, a7, a8, a9, a10, a11, a12, a13, a14, a15, a16, a17, a18] t (0, 0))) :
    (((((((((((((((((((W.setCell ⟨A, 0, none⟩ x0).setCell ⟨A, 1, none⟩ x1).setCell ⟨A, 2, none⟩ x2).setCell ⟨A, 3, none⟩ x3).setCell ⟨A, 4, none⟩ x4).setCell ⟨A, 5, none⟩ x5).setCell ⟨A, 6, none⟩ x6).setCell ⟨A, 7, none⟩ x7).setCell ⟨A, 8, none⟩ x8).setCell ⟨A, 9, none⟩ x9).setCell ⟨A, 10, none⟩ x10).setCell ⟨A, 11, none⟩ x11).setCell ⟨A, 12, none⟩ x12).setCell ⟨A, 13, none⟩ x13).setCell ⟨A, 14, none⟩ x14).setCell ⟨A, 15, none⟩ x15).setCell ⟨A, 16, none⟩ x16).setCell ⟨A, 17, none⟩ x17).setCell ⟨A, 18, none⟩ x18).heap[A]? = some (.cells #[x0, x1, x2, x3, x4, x5, x6, x7, x8, x9, x10, x11, x12, x13, x14, x15, x16, x17, x18] t (0, 0)) := by
  have h0 : (W.setCell ⟨A, 0, none⟩ x0).heap[A]? = some (.cells #[x0, a1, a2, a3, a4, a5, a6, a7, a8, a9, a10, a11, a12, a13, a14, a15, a16, a17, a18] t (0, 0)) := block_setCell h 0 x0
  clear h
  generalize W.setCell ⟨A, 0, none⟩ x0 = W0 at *
  have h1 : (W0.setCell ⟨A, 1, none⟩ x1).heap[A]? = some (.cells #[x0, x1, a2, a3, a4, a5, a6, a7, a8, a9, a10, a11, a12, a13, a14, a15, a16, a17, a18] t (0, 0)) := block_setCell h0 1 x1
  clear h0
  generalize W0.setCell ⟨A, 1, none⟩ x1 = W1 at *
  have h2 : (W1.setCell ⟨A, 2, none⟩ x2).heap[A]? = some (.cells #[x0, x1, x2, a3, a4, a5, a6, a7, a8, a9, a10, a11, a12, a13, a14, a15, a16, a17, a18] t (0, 0)) := block_setCell h1 2 x2
  clear h1
  generalize W1.setCell ⟨A, 2, none⟩ x2 = W2 at *
  have h3 : (W2.setCell ⟨A, 3, none⟩ x3).heap[A]? = some (.cells #[x0, x1, x2, x3, a4, a5, a6, a7, a8, a9, a10, a11, a12, a13, a14, a15, a16, a17, a18] t (0, 0)) := block_setCell h2 3 x3
  clear h2
  generalize W2.setCell ⟨A, 3, none⟩ x3 = W3 at *
  have h4 : (W3.setCell ⟨A, 4, none⟩ x4).heap[A]? = some (.cells #[x0, x1, x2, x3, x4, a5, a6, a7, a8, a9, a10, a11, a12, a13, a14, a15, a16, a17, a18] t (0, 0)) := block_setCell h3 4 x4
  clear h3
  generalize W3.setCell ⟨A, 4, none⟩ x4 = W4 at *
  have h5 : (W4.setCell ⟨A, 5, none⟩ x5).heap[A]? = some (.cells #[x0, x1, x2, x3, x4, x5, a6, a7, a8, a9, a10, a11, a12, a13, a14, a15, a16, a17, a18] t (0, 0)) := block_setCell h4 5 x5
  clear h4
  generalize W4.setCell ⟨A, 5, none⟩ x5 = W5 at *
  have h6 : (W5.setCell ⟨A, 6, none⟩ x6).heap[A]? = some (.cells #[x0, x1, x2, x3, x4, x5, x6, a7, a8, a9, a10, a11, a12, a13, a14, a15, a16, a17, a18] t (0, 0)) := block_setCell h5 6 x6
  clear h5
  generalize W5.setCell ⟨A, 6, none⟩ x6 = W6 at *
  have h7 : (W6.setCell ⟨A, 7, none⟩ x7).heap[A]? = some (.cells #[x0, x1, x2, x3, x4, x5, x6, x7, a8, a9, a10, a11, a12, a13, a14, a15, a16, a17, a18] t (0, 0)) := block_setCell h6 7 x7
  clear h6
  generalize W6.setCell ⟨A, 7, none⟩ x7 = W7 at *
  have h8 : (W7.setCell ⟨A, 8, none⟩ x8).heap[A]? = some (.cells #[x0, x1, x2, x3, x4, x5, x6, x7, x8, a9, a10, a11, a12, a13, a14, a15, a16, a17, a18] t (0, 0)) := block_setCell h7 8 x8
  clear h7
  generalize W7.setCell ⟨A, 8, none⟩ x8 = W8 at *
  have h9 : (W8.setCell ⟨A, 9, none⟩ x9).heap[A]? = some (.cells #[x0, x1, x2, x3, x4, x5, x6, x7, x8, x9, a10, a11, a12, a13, a14, a15, a16, a17, a18] t (0, 0)) := block_setCell h8 9 x9
  clear h8
  generalize W8.setCell ⟨A, 9, none⟩ x9 = W9 at *
  have h10 : (W9.setCell ⟨A, 10, none⟩ x10).heap[A]? = some (.cells #[x0, x1, x2, x3, x4, x5, x6, x7, x8, x9, x10, a11, a12, a13, a14, a15, a16, a17, a18] t (0, 0)) := block_setCell h9 10 x10
  clear h9
  generalize W9.setCell ⟨A, 10, none⟩ x10 = W10 at *
  have h11 : (W10.setCell ⟨A, 11, none⟩ x11).heap[A]? = some (.cells #[x0, x1, x2, x3, x4, x5, x6, x7, x8, x9, x10, x11, a12, a13, a14, a15, a16, a17, a18] t (0, 0)) := block_setCell h10 11 x11
  clear h10
  generalize W10.setCell ⟨A, 11, none⟩ x11 = W11 at *
  have h12 : (W11.setCell ⟨A, 12, none⟩ x12).heap[A]? = some (.cells #[x0, x1, x2, x3, x4, x5, x6, x7, x8, x9, x10, x11, x12, a13, a14, a15, a16, a17, a18] t (0, 0)) := block_setCell h11 12 x12
  clear h11
  generalize W11.setCell ⟨A, 12, none⟩ x12 = W12 at *
  have h13 : (W12.setCell ⟨A, 13, none⟩ x13).heap[A]? = some (.cells #[x0, x1, x2, x3, x4, x5, x6, x7, x8, x9, x10, x11, x12, x13, a14, a15, a16, a17, a18] t (0, 0)) := block_setCell h12 13 x13
  clear h12
  generalize W12.setCell ⟨A, 13, none⟩ x13 = W13 at *
  have h14 : (W13.setCell ⟨A, 14, none⟩ x14).heap[A]? = some (.cells #[x0, x1, x2, x3, x4, x5, x6, x7, x8, x9, x10, x11, x12, x13, x14, a15, a16, a17, a18] t (0, 0)) := block_setCell h13 14 x14
  clear h13
  generalize W13.setCell ⟨A, 14, none⟩ x14 = W14 at *
  have h15 : (W14.setCell ⟨A, 15, none⟩ x15).heap[A]? = some (.cells #[x0, x1, x2, x3, x4, x5, x6, x7, x8, x9, x10, x11, x12, x13, x14, x15, a16, a17, a18] t (0, 0)) := block_setCell h14 15 x15
  clear h14
  generalize W14.setCell ⟨A, 15, none⟩ x15 = W15 at *
  have h16 : (W15.setCell ⟨A, 16, none⟩ x16).heap[A]? = some (.cells #[x0, x1, x2, x3, x4, x5, x6, x7, x8, x9, x10, x11, x12, x13, x14, x15, x16, a17, a18] t (0, 0)) := block_setCell h15 16 x16
  clear h15
  generalize W15.setCell ⟨A, 16, none⟩ x16 = W16 at *
  have h17 : (W16.setCell ⟨A, 17, none⟩ x17).heap[A]? = some (.cells #[x0, x1, x2, x3, x4, x5, x6, x7, x8, x9, x10, x11, x12, x13, x14, x15, x16, x17, a18] t (0, 0)) := block_setCell h16 17 x17
  clear h16
  generalize W16.setCell ⟨A, 17, none⟩ x17 = W17 at *
  have h18 : (W17.setCell ⟨A, 18, none⟩ x18).heap[A]? = some (.cells #[x0, x1, x2, x3, x4, x5, x6, x7, x8, x9, x10, x11, x12, x13, x14, x15, x16, x17, x18] t (0, 0)) := block_setCell h17 18 x18
  exact h18
theorem row19_facts {w : World} {p : Nat} {a0 a1 a2 a3 a4 a5 a6 a7 a8 a9 a10 a11 a12 a13 a14 a15 a16 a17 a18 : Value} {t : TypeId} (h : w.heap[p]? = some (.cells #[a0, a1, a2, a3, a4, a5, a6, a7, a8, a9, a10, a11, a12, a13, a14, a15, a16, a17, a18] t (0, 0))) :
    (w.cell? ⟨p, 0, none⟩ = some a0 ∧ w.cell? ⟨p, 1, none⟩ = some a1 ∧ w.cell? ⟨p, 2, none⟩ = some a2 ∧ w.cell? ⟨p, 3, none⟩ = some a3 ∧ w.cell? ⟨p, 4, none⟩ = some a4 ∧ w.cell? ⟨p, 5, none⟩ = some a5 ∧ w.cell? ⟨p, 6, none⟩ = some a6 ∧ w.cell? ⟨p, 7, none⟩ = some a7 ∧ w.cell? ⟨p, 8, none⟩ = some a8 ∧ w.cell? ⟨p, 9, none⟩ = some a9 ∧ w.cell? ⟨p, 10, none⟩ = some a10 ∧ w.cell? ⟨p, 11, none⟩ = some a11 ∧ w.cell? ⟨p, 12, none⟩ = some a12 ∧ w.cell? ⟨p, 13, none⟩ = some a13 ∧ w.cell? ⟨p, 14, none⟩ = some a14 ∧ w.cell? ⟨p, 15, none⟩ = some a15 ∧ w.cell? ⟨p, 16, none⟩ = some a16 ∧ w.cell? ⟨p, 17, none⟩ = some a17 ∧ w.cell? ⟨p, 18, none⟩ = some a18) ∧
    (w.frozen? ⟨p, 0, none⟩ = false ∧ w.frozen? ⟨p, 1, none⟩ = false ∧ w.frozen? ⟨p, 2, none⟩ = false ∧ w.frozen? ⟨p, 3, none⟩ = false ∧ w.frozen? ⟨p, 4, none⟩ = false ∧ w.frozen? ⟨p, 5, none⟩ = false ∧ w.frozen? ⟨p, 6, none⟩ = false ∧ w.frozen? ⟨p, 7, none⟩ = false ∧ w.frozen? ⟨p, 8, none⟩ = false ∧ w.frozen? ⟨p, 9, none⟩ = false ∧ w.frozen? ⟨p, 10, none⟩ = false ∧ w.frozen? ⟨p, 11, none⟩ = false ∧ w.frozen? ⟨p, 12, none⟩ = false ∧ w.frozen? ⟨p, 13, none⟩ = false ∧ w.frozen? ⟨p, 14, none⟩ = false ∧ w.frozen? ⟨p, 15, none⟩ = false ∧ w.frozen? ⟨p, 16, none⟩ = false ∧ w.frozen? ⟨p, 17, none⟩ = false ∧ w.frozen? ⟨p, 18, none⟩ = false) :=
  ⟨⟨cell_of_block h 0, cell_of_block h 1, cell_of_block h 2, cell_of_block h 3, cell_of_block h 4, cell_of_block h 5, cell_of_block h 6, cell_of_block h 7, cell_of_block h 8, cell_of_block h 9, cell_of_block h 10, cell_of_block h 11, cell_of_block h 12, cell_of_block h 13, cell_of_block h 14, cell_of_block h 15, cell_of_block h 16, cell_of_block h 17, cell_of_block h 18⟩, ⟨frozen_of_block h 0, frozen_of_block h 1, frozen_of_block h 2, frozen_of_block h 3, frozen_of_block h 4, frozen_of_block h 5, frozen_of_block h 6, frozen_of_block h 7, frozen_of_block h 8, frozen_of_block h 9, frozen_of_block h 10, frozen_of_block h 11, frozen_of_block h 12, frozen_of_block h 13, frozen_of_block h 14, frozen_of_block h 15, frozen_of_block h 16, frozen_of_block h 17, frozen_of_block h 18⟩⟩
theorem below19 {B : Nat} {w W : World} (h : Below B w W) {A : Nat} (hA : B ≤ A) (x0 x1 x2 x3 x4 x5 x6 x7 x8 x9 x10 x11 x12 x13 x14 x15 x16 x17 x18 : Value) : Below B w (((((((((((((((((((W.setCell ⟨A, 0, none⟩ x0).setCell ⟨A, 1, none⟩ x1).setCell ⟨A, 2, none⟩ x2).setCell ⟨A, 3, none⟩ x3).setCell ⟨A, 4, none⟩ x4).setCell ⟨A, 5, none⟩ x5).setCell ⟨A, 6, none⟩ x6).setCell ⟨A, 7, none⟩ x7).setCell ⟨A, 8, none⟩ x8).setCell ⟨A, 9, none⟩ x9).setCell ⟨A, 10, none⟩ x10).setCell ⟨A, 11, none⟩ x11).setCell ⟨A, 12, none⟩ x12).setCell ⟨A, 13, none⟩ x13).setCell ⟨A, 14, none⟩ x14).setCell ⟨A, 15, none⟩ x15).setCell ⟨A, 16, none⟩ x16).setCell ⟨A, 17, none⟩ x17).setCell ⟨A, 18, none⟩ x18) :=
  (((((((((((((((((((h.setCell (p := ⟨A, 0, none⟩) hA x0).setCell (p := ⟨A, 1, none⟩) hA x1).setCell (p := ⟨A, 2, none⟩) hA x2).setCell (p := ⟨A, 3, none⟩) hA x3).setCell (p := ⟨A, 4, none⟩) hA x4).setCell (p := ⟨A, 5, none⟩) hA x5).setCell (p := ⟨A, 6, none⟩) hA x6).setCell (p := ⟨A, 7, none⟩) hA x7).setCell (p := ⟨A, 8, none⟩) hA x8).setCell (p := ⟨A, 9, none⟩) hA x9).setCell (p := ⟨A, 10, none⟩) hA x10).setCell (p := ⟨A, 11, none⟩) hA x11).setCell (p := ⟨A, 12, none⟩) hA x12).setCell (p := ⟨A, 13, none⟩) hA x13).setCell (p := ⟨A, 14, none⟩) hA x14).setCell (p := ⟨A, 15, none⟩) hA x15).setCell (p := ⟨A, 16, none⟩) hA x16).setCell (p := ⟨A, 17, none⟩) hA x17).setCell (p := ⟨A, 18, none⟩) hA x18)
theorem LnFrom.done19 {B : Nat} {W : World} {a : Option Addr} {L : List LnM} (h : LnFrom B W a L) {A : Nat} (hA : A < B) (x0 x1 x2 x3 x4 x5 x6 x7 x8 x9 x10 x11 x12 x13 x14 x15 x16 x17 x18 : Value) : LnFrom B (((((((((((((((((((W.setCell ⟨A, 0, none⟩ x0).setCell ⟨A, 1, none⟩ x1).setCell ⟨A, 2, none⟩ x2).setCell ⟨A, 3, none⟩ x3).setCell ⟨A, 4, none⟩ x4).setCell ⟨A, 5, none⟩ x5).setCell ⟨A, 6, none⟩ x6).setCell ⟨A, 7, none⟩ x7).setCell ⟨A, 8, none⟩ x8).setCell ⟨A, 9, none⟩ x9).setCell ⟨A, 10, none⟩ x10).setCell ⟨A, 11, none⟩ x11).setCell ⟨A, 12, none⟩ x12).setCell ⟨A, 13, none⟩ x13).setCell ⟨A, 14, none⟩ x14).setCell ⟨A, 15, none⟩ x15).setCell ⟨A, 16, none⟩ x16).setCell ⟨A, 17, none⟩ x17).setCell ⟨A, 18, none⟩ x18) a L :=
  ((((((((((((((((((h.set hA 0 x0).set hA 1 x1).set hA 2 x2).set hA 3 x3).set hA 4 x4).set hA 5 x5).set hA 6 x6).set hA 7 x7).set hA 8 x8).set hA 9 x9).set hA 10 x10).set hA 11 x11).set hA 12 x12).set hA 13 x13).set hA 14 x14).set hA 15 x15).set hA 16 x16).set hA 17 x17).set hA 18 x18
def rpC (x : RpM) (lv : Value) : Array Value := #[.int .i64 x.err, .int .i64 x.num, .int .i64 x.c, .int .i64 x.s, .int .i64 x.v, .int .i64 x.r, .int .i64 x.i, .int .i64 x.o, .int .i64 x.tn, .int .u8 x.tk, .int .i64 x.tsh, .int .i64 x.tr, .int .i64 x.ta, .int .i64 x.tl, .bool x.tv, lv, .int .i64 x.a0, .int .i64 x.a1, .bool x.rd]
/-- what write leaves -/
def RWrIs (w0 : World) (q k : Nat) (x : RpM) (T : List UInt8) (e : Ending) (w' : World) : Prop := e = .returned (.tuple #[]) ∧ WQ w' w0.heap.size q (repOk k x) (T ++ repB k x) 1000 ∧ Below w0.heap.size w0 w'
set_option maxRecDepth 100000 in
set_option maxHeartbeats 1000000 in
theorem rwr_plain (k : Nat) (hk : Plain k) (x : RpM) (hx : RpOk x) (a : Option Addr) (cap q : Nat) (w0 w : World) (hin : LnIn w0 a x.L) (hlow : Below w0.heap.size w0 w) (T : List UInt8) (hW : WQ w w0.heap.size q true T 8) (hB : w0.heap.size ≤ q) :
    Calls Try.prog 32 #[.agg #[.int .i64 x.err, .int .i64 x.num, .int .i64 x.c, .int .i64 x.s, .int .i64 x.v, .int .i64 x.r, .int .i64 x.i, .int .i64 x.o, .int .i64 x.tn, .int .u8 x.tk, .int .i64 x.tsh, .int .i64 x.tr, .int .i64 x.ta, .int .i64 x.tl, .bool x.tv, .slice a x.L.length cap, .int .i64 x.a0, .int .i64 x.a1, .bool x.rd], .pointer (some ⟨q, 0, none⟩), .int .u8 (k : Int)] w (RWrIs w0 q k x T) := by
  have hsz : w0.heap.size ≤ w.heap.size := hlow.size
  have hal := (Below.refl w.heap.size w).alloc (Nat.le_refl _) (.cells #[.int .i64 x.err, .int .i64 x.num, .int .i64 x.c, .int .i64 x.s, .int .i64 x.v, .int .i64 x.r, .int .i64 x.i, .int .i64 x.o, .int .i64 x.tn, .int .u8 x.tk, .int .i64 x.tsh, .int .i64 x.tr, .int .i64 x.ta, .int .i64 x.tl, .bool x.tv, .slice a x.L.length cap, .int .i64 x.a0, .int .i64 x.a1, .bool x.rd] 71)
  have EB := hide (heap_new w (.cells #[.int .i64 x.err, .int .i64 x.num, .int .i64 x.c, .int .i64 x.s, .int .i64 x.v, .int .i64 x.r, .int .i64 x.i, .int .i64 x.o, .int .i64 x.tn, .int .u8 x.tk, .int .i64 x.tsh, .int .i64 x.tr, .int .i64 x.ta, .int .i64 x.tl, .bool x.tv, .slice a x.L.length cap, .int .i64 x.a0, .int .i64 x.a1, .bool x.rd] 71))
  have WR := hide (hW.below hal)
  have BL := hide (hlow.alloc hsz (.cells #[.int .i64 x.err, .int .i64 x.num, .int .i64 x.c, .int .i64 x.s, .int .i64 x.v, .int .i64 x.r, .int .i64 x.i, .int .i64 x.o, .int .i64 x.tn, .int .u8 x.tk, .int .i64 x.tsh, .int .i64 x.tr, .int .i64 x.ta, .int .i64 x.tl, .bool x.tv, .slice a x.L.length cap, .int .i64 x.a0, .int .i64 x.a1, .bool x.rd] 71))
  have HR := hide hx
  have HIN := hide hin
  have HBQ := hide hB
  clear hal hW hlow hx hin hsz hB
  obtain ⟨q1, q2⟩ := rep_plain hk x
  have HEQ := hide (And.intro q1 q2)
  unfold Plain at hk
  have n3 : ((k : Int) == 3) = false := by rw [beq_eq_false_iff_ne]; omega
  have m3 : ¬ (k : Int) = 3 := by omega
  have n10 : ((k : Int) == 10) = false := by rw [beq_eq_false_iff_ne]; omega
  have m10 : ¬ (k : Int) = 10 := by omega
  have n11 : ((k : Int) == 11) = false := by rw [beq_eq_false_iff_ne]; omega
  have m11 : ¬ (k : Int) = 11 := by omega
  have n12 : ((k : Int) == 12) = false := by rw [beq_eq_false_iff_ne]; omega
  have m12 : ¬ (k : Int) = 12 := by omega
  have n13 : ((k : Int) == 13) = false := by rw [beq_eq_false_iff_ne]; omega
  have m13 : ¬ (k : Int) = 13 := by omega
  have n14 : ((k : Int) == 14) = false := by rw [beq_eq_false_iff_ne]; omega
  have m14 : ¬ (k : Int) = 14 := by omega
  have HC1 := hide (fun W hw => wq_number w0.heap.size q true T 8 (by omega) (IntKind.u64.wrap x.num) (wu64 _).1 (wu64 _).2 4 W hw HBQ.out)
  rw [fit4_is _ HR.out.num, put4_is, Bool.true_and] at HC1
  clear q1 q2 hk
  go_enter Try.func32, Try.ntmps32
  go_upto_region 1 with (fail)
  generalize w.alloc (.cells #[.int .i64 x.err, .int .i64 x.num, .int .i64 x.c, .int .i64 x.s, .int .i64 x.v, .int .i64 x.r, .int .i64 x.i, .int .i64 x.o, .int .i64 x.tn, .int .u8 x.tk, .int .i64 x.tsh, .int .i64 x.tr, .int .i64 x.ta, .int .i64 x.tl, .bool x.tv, .slice a x.L.length cap, .int .i64 x.a0, .int .i64 x.a1, .bool x.rd] 71) = w1 at *
  generalize w.heap.size = eb at *
  have e1 := cell_of_block EB.out 1
  go_wp2_with fail
  refine (HC1.out _ WR.out).mono ?_
  rintro e w2 ⟨rfl, hw, hb, hk⟩
  have WR2 := hide hw
  have BL2 := hide (BL.out.trans hb)
  clear hw hb hk e1
  go_wp2_with fail
  go_end0
  refine ⟨rfl, ?_, BL2.out⟩
  rw [HEQ.out.1, HEQ.out.2]
  exact WR2.out.more (by omega)
/-- the frame of ParseReply -/
structure RpF (w W : World) (p rb ra : Nat) (ok : Bool) (l : List UInt8) (C : Array Value) : Prop where
  rq : RQ W p ok l
  box : W.heap[rb]? = some (.cells C 71 (0, 0))
  res : W.heap[ra]? = some (.cells #[.int .i64 0, .int .i64 0, .int .i64 0, .int .i64 0, .int .i64 0, .int .i64 0, .int .i64 0, .int .i64 0, .int .i64 0, .int .u8 0, .int .i64 0, .int .i64 0, .int .i64 0, .int .i64 0, .bool false, .slice none 0 0, .int .i64 0, .int .i64 0, .bool false] 71 (0, 0))
  below : Below w.heap.size w W
  new : w.heap.size ≤ rb ∧ w.heap.size ≤ ra ∧ w.heap.size ≤ p ∧ rb ≠ ra ∧ rb ≠ p ∧ ra ≠ p
theorem RpF.step {w W W' : World} {p rb ra : Nat} {ok ok' : Bool} {l l' : List UInt8} {C : Array Value} (h : RpF w W p rb ra ok l C) (hr : RQ W' p ok' l') (ho : Only p W W') : RpF w W' p rb ra ok' l' C := by
  obtain ⟨n1, n2, n3, n4, n5, n6⟩ := h.new
  exact ⟨hr, (ho.block _ (heap_lt h.box) n5).trans h.box, (ho.block _ (heap_lt h.res) n6).trans h.res, ho.below h.below n3 h.below.size, h.new⟩
theorem RpF.store {w W : World} {p rb ra : Nat} {ok : Bool} {l : List UInt8} {C : Array Value} (h : RpF w W p rb ra ok l C) (j : Nat) (v : Value) : RpF w (W.setCell ⟨rb, j, none⟩ v) p rb ra ok l (C.setIfInBounds j v) := by
  obtain ⟨n1, n2, n3, n4, n5, n6⟩ := h.new
  exact ⟨h.rq.other n5 j v, block_setCell h.box j v, (block_setCell_other n4 j v).trans h.res, h.below.setCell (p := ⟨rb, j, none⟩) n1 v, h.new⟩
/-- are these bytes what stands behind no error? -/
def repD (k : Nat) (l : List UInt8) : Bool :=
  if k = 10 then decide (l.length = 8)
  else if k = 13 then decide (l.length = 16)
  else if k = 11 then decide (27 ≤ l.length ∧ (l.getD 25 0).toNat ≤ 1 ∧ (l.getD 26 0).toNat ≤ 8 ∧ l.length = 27 + 10 * (l.getD 26 0).toNat)
  else if k = 12 then decide (l.length = 44)
  else if k = 14 then decide (l.length = 10 ∧ (l.getD 9 0).toNat ≤ 1)
  else if k = 3 then decide (l.length = 48)
  else decide (l.length = 4)
def totR (l : List UInt8) (o : Nat) : RpM := { rp0 with c := fl l o 4, s := wrap64 (fl l (o + 4) 8), v := wrap64 (fl l (o + 12) 8), r := wrap64 (fl l (o + 20) 8), i := wrap64 (fl l (o + 28) 8), o := wrap64 (fl l (o + 36) 8) }
def repR (k : Nat) (l : List UInt8) : RpM :=
  if k = 10 then { rp0 with a0 := wrap64 (fl l 0 8) }
  else if k = 13 then { rp0 with a0 := wrap64 (fl l 0 8), a1 := wrap64 (fl l 8 8) }
  else if k = 11 then { rp0 with tk := fl l 0 1, tsh := fl l 1 4, tr := fl l 5 4, ta := wrap64 (fl l 9 8), tl := wrap64 (fl l 17 8), tv := decide (fl l 25 1 = 1), L := readL (bs (l.drop 26)) (l.getD 26 0).toNat }
  else if k = 12 then totR l 0
  else if k = 14 then { rp0 with num := fl l 0 4, tn := fl l 4 5, rd := decide (fl l 9 1 = 1) }
  else if k = 3 then { totR l 4 with num := fl l 0 4 }
  else { rp0 with num := fl l 0 4 }
theorem repD_plain {k : Nat} (h : Plain k) (l : List UInt8) : repD k l = decide (l.length = 4) ∧ repR k l = { rp0 with num := fl l 0 4 } := by
  unfold Plain at h
  unfold repD repR
  constructor
  · rw [if_neg (by omega), if_neg (by omega), if_neg (by omega), if_neg (by omega), if_neg (by omega), if_neg (by omega)]
  · rw [if_neg (by omega), if_neg (by omega), if_neg (by omega), if_neg (by omega), if_neg (by omega), if_neg (by omega)]
/-- what read leaves: the values told of the bytes, whether they are right -/
def RRdIs (w : World) (p rb ra k : Nat) (ok : Bool) (l : List UInt8) (e : Ending) (w' : World) : Prop := ∃ (x : RpM) (a : Option Addr) (c : Nat) (okv ok' : Bool) (l' : List UInt8), e = .returned (.bool okv) ∧ RpF w w' p rb ra ok' l' (rpC x (.slice a x.L.length c)) ∧ LnFrom (max rb ra + 1) w' a x.L ∧ ((okv = true ∧ ok' = true ∧ l' = []) ↔ (ok = true ∧ repD k l = true)) ∧ (ok = true → repD k l = true → x = repR k l)
set_option maxRecDepth 100000 in
set_option maxHeartbeats 1000000 in
theorem rrd_plain (k : Nat) (hk : Plain k) (p rb ra : Nat) (ok : Bool) (l : List UInt8) (w W : World) (h : RpF w W p rb ra ok l #[.int .i64 0, .int .i64 0, .int .i64 0, .int .i64 0, .int .i64 0, .int .i64 0, .int .i64 0, .int .i64 0, .int .i64 0, .int .u8 0, .int .i64 0, .int .i64 0, .int .i64 0, .int .i64 0, .bool false, .slice none 0 0, .int .i64 0, .int .i64 0, .bool false]) :
    Calls Try.prog 33 #[.pointer (some ⟨rb, 0, none⟩), .pointer (some ⟨p, 0, none⟩), .int .u8 (k : Int)] W (RRdIs w p rb ra k ok l) := by
  have F0 := hide h
  clear h
  obtain ⟨q1, q2⟩ := repD_plain hk l
  have HEQ := hide (And.intro q1 q2)
  unfold Plain at hk
  have n3 : ((k : Int) == 3) = false := by rw [beq_eq_false_iff_ne]; omega
  have m3 : ¬ (k : Int) = 3 := by omega
  have n10 : ((k : Int) == 10) = false := by rw [beq_eq_false_iff_ne]; omega
  have m10 : ¬ (k : Int) = 10 := by omega
  have n11 : ((k : Int) == 11) = false := by rw [beq_eq_false_iff_ne]; omega
  have m11 : ¬ (k : Int) = 11 := by omega
  have n12 : ((k : Int) == 12) = false := by rw [beq_eq_false_iff_ne]; omega
  have m12 : ¬ (k : Int) = 12 := by omega
  have n13 : ((k : Int) == 13) = false := by rw [beq_eq_false_iff_ne]; omega
  have m13 : ¬ (k : Int) = 13 := by omega
  have n14 : ((k : Int) == 14) = false := by rw [beq_eq_false_iff_ne]; omega
  have m14 : ¬ (k : Int) = 14 := by omega
  have HC1 := hide (fun W hw => rq_number p ok l 4 (by decide) (by decide) W hw)
  unfold RNIs at HC1
  obtain ⟨n1, hn1⟩ : ∃ n : Nat, vN ok l 4 = n := ⟨_, rfl⟩
  have hbn1 := vN_lt ok l 4
  rw [hn1] at HC1 hbn1
  have HV1 := hide hn1
  obtain ⟨cn1a, cn1b⟩ := wr_i64 n1 (by omega)
  have dn1 : 0 ≤ (n1 : Int) ∧ (n1 : Int) ≤ 4294967295 := by omega
  clear hn1 hbn1 q1 q2 hk
  go_enter Try.func33, Try.ntmps33
  go_wp2_with fail
  refine (HC1.out _ F0.out.rq).mono ?_
  rintro e w1 ⟨rfl, hr, ho⟩
  have F1 := hide (F0.out.step hr ho)
  clear hr ho
  have e1 := cell_of_block F1.out.box 1
  have z1 := frozen_of_block F1.out.box 1
  have F2 := hide (show RpF w (w1.setCell ⟨rb, 1, none⟩ (.int .i64 (n1 : Int))) p rb ra _ _ #[.int .i64 0, .int .i64 (n1 : Int), .int .i64 0, .int .i64 0, .int .i64 0, .int .i64 0, .int .i64 0, .int .i64 0, .int .i64 0, .int .u8 0, .int .i64 0, .int .i64 0, .int .i64 0, .int .i64 0, .bool false, .slice none 0 0, .int .i64 0, .int .i64 0, .bool false] from F1.out.store 1 (.int .i64 (n1 : Int)))
  go_wp2_with fail
  go_ret
  refine ⟨{ rp0 with num := n1 }, none, 0, true, _, _, rfl, F2.out, LnFrom.nil _ _ _, ?_, fun hok hd => ?_⟩
  · rw [HEQ.out.1, decide_eq_true_eq]
    constructor
    · rintro ⟨-, h2, h3⟩
      have h4 := congrArg List.length h3
      rw [List.length_drop] at h4
      simp only [List.length_nil] at h4
      rw [Bool.and_eq_true, decide_eq_true_eq] at h2
      exact ⟨h2.1, by omega⟩
    · rintro ⟨h1, h4⟩
      exact ⟨rfl, by rw [h1]; simp; omega, List.drop_of_length_le (by omega)⟩
  · rw [HEQ.out.2]
    rw [HEQ.out.1, decide_eq_true_eq] at hd
    have y1 : n1 = fl l 0 4 := by rw [← HV1.out, hok, vN_true _ _ (by omega)]; unfold fl; rw [List.drop_zero]
    rw [y1]
end Go.Proofs.Ytkbikflincjhhaa
