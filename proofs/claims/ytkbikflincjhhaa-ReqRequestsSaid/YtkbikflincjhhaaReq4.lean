/-
  Layer 28: Decode of a request.
-/
import Derived.Test.YtkbikflincjhhaaReq3
import Derived.Test.YtkbikflincjhhaaReq2

namespace Go.Proofs.Ytkbikflincjhhaa
set_option linter.unusedSimpArgs false
set_option linter.unusedVariables false
open Go.RowKit Go.WideShapes Go.ChangeShapes Go.ChangeAt Go.Deep
theorem row10_set {W : World} {A : Nat} {a0 a1 a2 a3 a4 a5 a6 a7 a8 a9 x0 x1 x2 x3 x4 x5 x6 x7 x8 x9 : Value} {t : TypeId} (h : W.heap[A]? = some (.cells #[a0, a1, a2, a3, a4, a5, a6, a7, a8, a9] t (0, 0))) :
    ((((((((((W.setCell ⟨A, 0, none⟩ x0).setCell ⟨A, 1, none⟩ x1).setCell ⟨A, 2, none⟩ x2).setCell ⟨A, 3, none⟩ x3).setCell ⟨A, 4, none⟩ x4).setCell ⟨A, 5, none⟩ x5).setCell ⟨A, 6, none⟩ x6).setCell ⟨A, 7, none⟩ x7).setCell ⟨A, 8, none⟩ x8).setCell ⟨A, 9, none⟩ x9).heap[A]? = some (.cells #[x0, x1, x2, x3, x4, x5, x6, x7, x8, x9] t (0, 0)) := by
  have h0 : (W.setCell ⟨A, 0, none⟩ x0).heap[A]? = some (.cells #[x0, a1, a2, a3, a4, a5, a6, a7, a8, a9] t (0, 0)) := block_setCell h 0 x0
  clear h
  generalize W.setCell ⟨A, 0, none⟩ x0 = W0 at *
  have h1 : (W0.setCell ⟨A, 1, none⟩ x1).heap[A]? = some (.cells #[x0, x1, a2, a3, a4, a5, a6, a7, a8, a9] t (0, 0)) := block_setCell h0 1 x1
  clear h0
  generalize W0.setCell ⟨A, 1, none⟩ x1 = W1 at *
  have h2 : (W1.setCell ⟨A, 2, none⟩ x2).heap[A]? = some (.cells #[x0, x1, x2, a3, a4, a5, a6, a7, a8, a9] t (0, 0)) := block_setCell h1 2 x2
  clear h1
  generalize W1.setCell ⟨A, 2, none⟩ x2 = W2 at *
  have h3 : (W2.setCell ⟨A, 3, none⟩ x3).heap[A]? = some (.cells #[x0, x1, x2, x3, a4, a5, a6, a7, a8, a9] t (0, 0)) := block_setCell h2 3 x3
  clear h2
  generalize W2.setCell ⟨A, 3, none⟩ x3 = W3 at *
  have h4 : (W3.setCell ⟨A, 4, none⟩ x4).heap[A]? = some (.cells #[x0, x1, x2, x3, x4, a5, a6, a7, a8, a9] t (0, 0)) := block_setCell h3 4 x4
  clear h3
  generalize W3.setCell ⟨A, 4, none⟩ x4 = W4 at *
  have h5 : (W4.setCell ⟨A, 5, none⟩ x5).heap[A]? = some (.cells #[x0, x1, x2, x3, x4, x5, a6, a7, a8, a9] t (0, 0)) := block_setCell h4 5 x5
  clear h4
  generalize W4.setCell ⟨A, 5, none⟩ x5 = W5 at *
  have h6 : (W5.setCell ⟨A, 6, none⟩ x6).heap[A]? = some (.cells #[x0, x1, x2, x3, x4, x5, x6, a7, a8, a9] t (0, 0)) := block_setCell h5 6 x6
  clear h5
  generalize W5.setCell ⟨A, 6, none⟩ x6 = W6 at *
  have h7 : (W6.setCell ⟨A, 7, none⟩ x7).heap[A]? = some (.cells #[x0, x1, x2, x3, x4, x5, x6, x7, a8, a9] t (0, 0)) := block_setCell h6 7 x7
  clear h6
  generalize W6.setCell ⟨A, 7, none⟩ x7 = W7 at *
  have h8 : (W7.setCell ⟨A, 8, none⟩ x8).heap[A]? = some (.cells #[x0, x1, x2, x3, x4, x5, x6, x7, x8, a9] t (0, 0)) := block_setCell h7 8 x8
  clear h7
  generalize W7.setCell ⟨A, 8, none⟩ x8 = W8 at *
  have h9 : (W8.setCell ⟨A, 9, none⟩ x9).heap[A]? = some (.cells #[x0, x1, x2, x3, x4, x5, x6, x7, x8, x9] t (0, 0)) := block_setCell h8 9 x9
  exact h9
theorem row10_facts {w : World} {p : Nat} {a0 a1 a2 a3 a4 a5 a6 a7 a8 a9 : Value} {t : TypeId} (h : w.heap[p]? = some (.cells #[a0, a1, a2, a3, a4, a5, a6, a7, a8, a9] t (0, 0))) :
    (w.cell? ⟨p, 0, none⟩ = some a0 ∧ w.cell? ⟨p, 1, none⟩ = some a1 ∧ w.cell? ⟨p, 2, none⟩ = some a2 ∧ w.cell? ⟨p, 3, none⟩ = some a3 ∧ w.cell? ⟨p, 4, none⟩ = some a4 ∧ w.cell? ⟨p, 5, none⟩ = some a5 ∧ w.cell? ⟨p, 6, none⟩ = some a6 ∧ w.cell? ⟨p, 7, none⟩ = some a7 ∧ w.cell? ⟨p, 8, none⟩ = some a8 ∧ w.cell? ⟨p, 9, none⟩ = some a9) ∧
    (w.frozen? ⟨p, 0, none⟩ = false ∧ w.frozen? ⟨p, 1, none⟩ = false ∧ w.frozen? ⟨p, 2, none⟩ = false ∧ w.frozen? ⟨p, 3, none⟩ = false ∧ w.frozen? ⟨p, 4, none⟩ = false ∧ w.frozen? ⟨p, 5, none⟩ = false ∧ w.frozen? ⟨p, 6, none⟩ = false ∧ w.frozen? ⟨p, 7, none⟩ = false ∧ w.frozen? ⟨p, 8, none⟩ = false ∧ w.frozen? ⟨p, 9, none⟩ = false) :=
  ⟨⟨cell_of_block h 0, cell_of_block h 1, cell_of_block h 2, cell_of_block h 3, cell_of_block h 4, cell_of_block h 5, cell_of_block h 6, cell_of_block h 7, cell_of_block h 8, cell_of_block h 9⟩, ⟨frozen_of_block h 0, frozen_of_block h 1, frozen_of_block h 2, frozen_of_block h 3, frozen_of_block h 4, frozen_of_block h 5, frozen_of_block h 6, frozen_of_block h 7, frozen_of_block h 8, frozen_of_block h 9⟩⟩
def rqC (x : RqM) (lv : Value) : Array Value := #[.int .u8 x.k, .int .u8 x.ek, .int .u64 x.key, .int .i64 x.ref, .int .i64 x.amt, .int .i64 x.code, .int .u8 x.ak, .string x.name, lv, .int .i64 x.n]
def decE (l : List UInt8) : Int := if decO l = true then 0 else 4
def decX (l : List UInt8) : RqM := if decO l = true then decR l else rq0
/-- what Decode leaves -/
def DecIs (l : List UInt8) (w : World) (e : Ending) (w' : World) : Prop := ∃ (a : Option Addr) (c : Nat), e = .returned (.tuple #[.agg (rqC (decX l) (.slice a (decX l).L.length c)), .int .i64 (decE l)]) ∧ LnIn w' a (decX l).L ∧ Below w.heap.size w w'
/-- the frame: the request's box, the result's -/
structure DcF (w W : World) (p rb ra : Nat) (ok : Bool) (l : List UInt8) (C : Array Value) : Prop where
  rq : RQ W p ok l
  box : W.heap[rb]? = some (.cells C 39 (0, 0))
  res : W.heap[ra]? = some (.cells #[.int .u8 0, .int .u8 0, .int .u64 0, .int .i64 0, .int .i64 0, .int .i64 0, .int .u8 0, .string ⟨#[]⟩, .slice none 0 0, .int .i64 0] 39 (0, 0))
  below : Below w.heap.size w W
  new : w.heap.size ≤ rb ∧ w.heap.size ≤ ra ∧ w.heap.size ≤ p ∧ rb ≠ ra ∧ rb ≠ p ∧ ra ≠ p
theorem DcF.step {w W W' : World} {p rb ra : Nat} {ok ok' : Bool} {l l' : List UInt8} {C : Array Value} (h : DcF w W p rb ra ok l C) (hr : RQ W' p ok' l') (ho : Only p W W') : DcF w W' p rb ra ok' l' C := by
  obtain ⟨n1, n2, n3, n4, n5, n6⟩ := h.new
  exact ⟨hr, (ho.block _ (heap_lt h.box) n5).trans h.box, (ho.block _ (heap_lt h.res) n6).trans h.res, ho.below h.below n3 h.below.size, h.new⟩
theorem DcF.store {w W : World} {p rb ra : Nat} {ok : Bool} {l : List UInt8} {C : Array Value} (h : DcF w W p rb ra ok l C) (j : Nat) (v : Value) : DcF w (W.setCell ⟨rb, j, none⟩ v) p rb ra ok l (C.setIfInBounds j v) := by
  obtain ⟨n1, n2, n3, n4, n5, n6⟩ := h.new
  exact ⟨h.rq.other n5 j v, block_setCell h.box j v, (block_setCell_other n4 j v).trans h.res, h.below.setCell (p := ⟨rb, j, none⟩) n1 v, h.new⟩
theorem DcF.done {w W : World} {p rb A : Nat} {ok : Bool} {l : List UInt8} {C : Array Value} (h : DcF w W p rb A ok l C) (x0 x1 x2 x3 x4 x5 x6 x7 x8 x9 : Value) :
    Below w.heap.size w ((((((((((W.setCell ⟨A, 0, none⟩ x0).setCell ⟨A, 1, none⟩ x1).setCell ⟨A, 2, none⟩ x2).setCell ⟨A, 3, none⟩ x3).setCell ⟨A, 4, none⟩ x4).setCell ⟨A, 5, none⟩ x5).setCell ⟨A, 6, none⟩ x6).setCell ⟨A, 7, none⟩ x7).setCell ⟨A, 8, none⟩ x8).setCell ⟨A, 9, none⟩ x9) := by
  obtain ⟨n1, n2, n3, n4, n5, n6⟩ := h.new
  exact ((((((((((h.below.setCell (p := ⟨A, 0, none⟩) n2 x0).setCell (p := ⟨A, 1, none⟩) n2 x1).setCell (p := ⟨A, 2, none⟩) n2 x2).setCell (p := ⟨A, 3, none⟩) n2 x3).setCell (p := ⟨A, 4, none⟩) n2 x4).setCell (p := ⟨A, 5, none⟩) n2 x5).setCell (p := ⟨A, 6, none⟩) n2 x6).setCell (p := ⟨A, 7, none⟩) n2 x7).setCell (p := ⟨A, 8, none⟩) n2 x8).setCell (p := ⟨A, 9, none⟩) n2 x9)
theorem LnFrom.done10 {B : Nat} {W : World} {a : Option Addr} {L : List LnM} (h : LnFrom B W a L) {A : Nat} (hA : A < B) (x0 x1 x2 x3 x4 x5 x6 x7 x8 x9 : Value) : LnFrom B ((((((((((W.setCell ⟨A, 0, none⟩ x0).setCell ⟨A, 1, none⟩ x1).setCell ⟨A, 2, none⟩ x2).setCell ⟨A, 3, none⟩ x3).setCell ⟨A, 4, none⟩ x4).setCell ⟨A, 5, none⟩ x5).setCell ⟨A, 6, none⟩ x6).setCell ⟨A, 7, none⟩ x7).setCell ⟨A, 8, none⟩ x8).setCell ⟨A, 9, none⟩ x9) a L :=
  (((((((((h.set hA 0 x0).set hA 1 x1).set hA 2 x2).set hA 3 x3).set hA 4 x4).set hA 5 x5).set hA 6 x6).set hA 7 x7).set hA 8 x8).set hA 9 x9
theorem dec_no {l : List UInt8} (h : ¬ decO l = true) : decE l = 4 ∧ decX l = rq0 := ⟨if_neg h, if_neg h⟩
theorem dec_yes {l : List UInt8} (h : decO l = true) : decE l = 0 ∧ decX l = decR l := ⟨if_pos h, if_pos h⟩
theorem vN_kd (l : List UInt8) : vN true l 1 = kd l := by
  cases l with
  | nil => rfl
  | cons b l => rw [vN_true _ 1 (by simp)]; simp [getN, kd, List.getD]
theorem rev_any (p k : Nat) (hk9 : 1 ≤ k ∧ k ≤ 9) (l : List UInt8) (hl : 1 ≤ l.length) (hk : kd l = k) (w : World) (h : RQ w p true (l.drop 1)) :
    Calls Try.prog 28 #[.pointer (some ⟨p, 0, none⟩), .int .u8 (k : Int)] w (REvIs p l w) := by
  have hc : k = 1 ∨ k = 2 ∨ k = 3 ∨ k = 4 ∨ k = 5 ∨ k = 6 ∨ k = 7 ∨ k = 8 ∨ k = 9 := by omega
  rcases hc with rfl | rfl | rfl | rfl | rfl | rfl | rfl | rfl | rfl
  · exact rev_1 p l hl hk w h
  · exact rev_2 p l hl hk w h
  · exact rev_3 p l hl hk w h
  · exact rev_4 p l hl hk w h
  · exact rev_5 p l hl hk w h
  · exact rev_6 p l hl hk w h
  · exact rev_7 p l hl hk w h
  · exact rev_8 p l hl hk w h
  · exact rev_9 p l hl hk w h
set_option maxRecDepth 100000 in
set_option maxHeartbeats 1000000 in
theorem dec_none (l : List UInt8) (hl : l.length ≤ 1000000) (k : Nat) (hk : kd l = k) (h14 : k < 1 ∨ 14 < k) (w : World) : Calls Try.prog 10 #[.string (bs l)] w (DecIs l w) := by
  have HRD := hide (fun W => rq_new l hl W)
  have HN1 := hide (fun p W hw => rq_number p true l 1 (by decide) (by decide) W hw)
  unfold RNIs at HN1
  rw [vN_kd, hk] at HN1
  obtain ⟨o1, ho1⟩ : ∃ o, (true && decide (1 ≤ l.length)) = o := ⟨_, rfl⟩
  rw [ho1] at HN1
  have HO1 := hide ho1
  clear ho1
  have hkl := kd_lt l
  rw [hk] at hkl
  have hwk := wr_u8 k hkl
  have HK := hide hk
  have hk0 : 0 ≤ (k : Int) ∧ (k : Int) ≤ 255 := by omega
  have HRT := hide (fun W => right_any (k : Int) W)
  have HEV := hide (fun W => event_any (k : Int) W)
  clear hk hkl
  rw [show evB (k : Int) = false from decide_eq_false (by omega)] at HEV
  rw [show rtB (k : Int) = false from decide_eq_false (by omega)] at HRT
  have hdn : ¬ decO l = true := fun h => by
    obtain ⟨-, h1, h2, -⟩ := of_decide_eq_true h
    rw [HK.out] at h1 h2
    omega
  have HDN := hide hdn
  clear hdn
  have n10 : ((k : Int) == 10) = false := by rw [beq_eq_false_iff_ne]; omega
  have m10 : ¬ (k : Int) = 10 := by omega
  have n11 : ((k : Int) == 11) = false := by rw [beq_eq_false_iff_ne]; omega
  have m11 : ¬ (k : Int) = 11 := by omega
  have n12 : ((k : Int) == 12) = false := by rw [beq_eq_false_iff_ne]; omega
  have m12 : ¬ (k : Int) = 12 := by omega
  go_enter Try.func10, Try.ntmps10
  have hal := (Below.refl w.heap.size w).alloc (Nat.le_refl _) (.cells #[.int .u8 0, .int .u8 0, .int .u64 0, .int .i64 0, .int .i64 0, .int .i64 0, .int .u8 0, .string ⟨#[]⟩, .slice none 0 0, .int .i64 0] 39)
  have XA := hide (heap_new w (.cells #[.int .u8 0, .int .u8 0, .int .u64 0, .int .i64 0, .int .i64 0, .int .i64 0, .int .u8 0, .string ⟨#[]⟩, .slice none 0 0, .int .i64 0] 39))
  have BL := hide hal
  clear hal
  go_upto_region 1 with (fail)
  generalize w.alloc (.cells #[.int .u8 0, .int .u8 0, .int .u64 0, .int .i64 0, .int .i64 0, .int .i64 0, .int .u8 0, .string ⟨#[]⟩, .slice none 0 0, .int .i64 0] 39) = w1 at *
  generalize hra : w.heap.size = ra at XA ⊢
  have HRA := hide hra
  clear hra
  go_wp2_with fail
  refine (HRD.out _).mono ?_
  rintro e w2 ⟨rfl, hr, hb⟩
  have HRQ := hide hr
  have XA2 := hide ((hb.block _ (heap_lt XA.out)).trans XA.out)
  have BL2 := hide (BL.out.trans (hb.mono BL.out.size))
  have HPN := hide (show ra < w1.heap.size ∧ w.heap.size ≤ w1.heap.size from ⟨heap_lt XA.out, BL.out.size⟩)
  clear hr hb HRD XA BL
  generalize w1.heap.size = p at *
  go_wp2_with fail
  refine (HN1.out _ _ HRQ.out).mono ?_
  rintro e w3 ⟨rfl, hr, ho⟩
  have hp1 : ra ≠ p := by have := HPN.out; omega
  have hal := (Below.refl w3.heap.size w3).alloc (Nat.le_refl _) (.cells #[.int .u8 (k : Int), .int .u8 0, .int .u64 0, .int .i64 0, .int .i64 0, .int .i64 0, .int .u8 0, .string ⟨#[]⟩, .slice none 0 0, .int .i64 0] 39)
  have D0 := hide (show DcF w (w3.alloc (.cells #[.int .u8 (k : Int), .int .u8 0, .int .u64 0, .int .i64 0, .int .i64 0, .int .i64 0, .int .u8 0, .string ⟨#[]⟩, .slice none 0 0, .int .i64 0] 39)) p w3.heap.size ra o1 (l.drop 1) #[.int .u8 (k : Int), .int .u8 0, .int .u64 0, .int .i64 0, .int .i64 0, .int .i64 0, .int .u8 0, .string ⟨#[]⟩, .slice none 0 0, .int .i64 0] from by
    have b3 := ho.below BL2.out HPN.out.2 BL2.out.size
    have x3 := (ho.block _ (heap_lt XA2.out) hp1).trans XA2.out
    have l3 := heap_lt x3
    have p3 := hr.lt
    exact ⟨hr.below hal, heap_new _ _, (hal.block _ l3).trans x3, b3.alloc b3.size _, b3.size, by rw [HRA.out]; exact Nat.le_refl _, HPN.out.2, by omega, by omega, hp1⟩)
  clear hal hr ho XA2 BL2 HRQ HN1
  go_upto_region 3 with (fail)
  generalize w3.alloc (.cells #[.int .u8 (k : Int), .int .u8 0, .int .u64 0, .int .i64 0, .int .i64 0, .int .i64 0, .int .u8 0, .string ⟨#[]⟩, .slice none 0 0, .int .i64 0] 39) = w4 at *
  generalize w3.heap.size = rb at *
  have e0 : w4.cell? ⟨rb, 0, none⟩ = some (.int .u8 (k : Int)) := cell_of_block D0.out.box 0
  go_wp2_with fail
  refine (HEV.out _).mono ?_
  rintro e w5 ⟨rfl, rfl⟩
  have HEN := hide (rq_end p o1 (l.drop 1) w4 D0.out.rq)
  by_cases hE : o1 = true ∧ l.drop 1 = []
  · rw [show endZ o1 (l.drop 1) = 0 from if_pos hE] at HEN
    clear hE
    go_wp2_with fail
    refine HEN.out.mono ?_
    rintro e w6 ⟨rfl, rfl⟩
    go_wp2_with fail
    refine (HRT.out _).mono ?_
    rintro e w6 ⟨rfl, rfl⟩
    clear e0
    obtain ⟨⟨e0, e1, e2, e3, e4, e5, e6, e7, e8, e9⟩, -⟩ := row10_facts D0.out.box
    obtain ⟨-, ⟨z0, z1, z2, z3, z4, z5, z6, z7, z8, z9⟩⟩ := row10_facts D0.out.res
    obtain ⟨⟨g0, g1, g2, g3, g4, g5, g6, g7, g8, g9⟩, -⟩ := row10_facts D0.out.res
    have hne : ¬ rb = ra := D0.out.new.2.2.2.1
    have hne2 : ¬ ra = rb := fun h => hne h.symm
    go_wp2_with fail
    (try simp only [Exit.inBlock, Exit.then])
    refine bodyPost_ret (res_cell2 (P := Try.prog) rfl _ _ ra 39 #[.int .u8 0, .int .u8 0, .int .u64 0, .int .i64 0, .int .i64 0, .int .i64 0, .int .u8 0, .string ⟨#[]⟩, .slice none 0 0, .int .i64 0] (0, 0) _ rfl (row10_set D0.out.res) Try.underlying39 rfl (by kernel_rfl)) rfl ?_
    obtain ⟨y1, y2⟩ := dec_no HDN.out
    refine ⟨none, 0, by rw [y1, y2]; rfl, by rw [y2]; exact fun i hi => absurd hi (Nat.not_lt_zero i), D0.out.done (.int .u8 0) (.int .u8 0) (.int .u64 0) (.int .i64 0) (.int .i64 0) (.int .i64 0) (.int .u8 0) (.string ⟨#[]⟩) (.slice none 0 0) (.int .i64 0)⟩
  · rw [show endZ o1 (l.drop 1) = 4 from if_neg hE] at HEN
    clear hE
    go_wp2_with fail
    refine HEN.out.mono ?_
    rintro e w6 ⟨rfl, rfl⟩
    clear e0
    obtain ⟨⟨e0, e1, e2, e3, e4, e5, e6, e7, e8, e9⟩, -⟩ := row10_facts D0.out.box
    obtain ⟨-, ⟨z0, z1, z2, z3, z4, z5, z6, z7, z8, z9⟩⟩ := row10_facts D0.out.res
    obtain ⟨⟨g0, g1, g2, g3, g4, g5, g6, g7, g8, g9⟩, -⟩ := row10_facts D0.out.res
    have hne : ¬ rb = ra := D0.out.new.2.2.2.1
    have hne2 : ¬ ra = rb := fun h => hne h.symm
    go_wp2_with fail
    (try simp only [Exit.inBlock, Exit.then])
    refine bodyPost_ret (res_cell2 (P := Try.prog) rfl _ _ ra 39 #[.int .u8 0, .int .u8 0, .int .u64 0, .int .i64 0, .int .i64 0, .int .i64 0, .int .u8 0, .string ⟨#[]⟩, .slice none 0 0, .int .i64 0] (0, 0) _ rfl (row10_set D0.out.res) Try.underlying39 rfl (by kernel_rfl)) rfl ?_
    obtain ⟨y1, y2⟩ := dec_no HDN.out
    refine ⟨none, 0, by rw [y1, y2]; rfl, by rw [y2]; exact fun i hi => absurd hi (Nat.not_lt_zero i), D0.out.done (.int .u8 0) (.int .u8 0) (.int .u64 0) (.int .i64 0) (.int .i64 0) (.int .i64 0) (.int .u8 0) (.string ⟨#[]⟩) (.slice none 0 0) (.int .i64 0)⟩
set_option maxRecDepth 100000 in
set_option maxHeartbeats 1000000 in
theorem dec_event (l : List UInt8) (hl : l.length ≤ 1000000) (k : Nat) (hk : kd l = k) (h19 : 1 ≤ k ∧ k ≤ 9) (w : World) : Calls Try.prog 10 #[.string (bs l)] w (DecIs l w) := by
  have HRD := hide (fun W => rq_new l hl W)
  have HN1 := hide (fun p W hw => rq_number p true l 1 (by decide) (by decide) W hw)
  unfold RNIs at HN1
  rw [vN_kd, hk] at HN1
  obtain ⟨o1, ho1⟩ : ∃ o, (true && decide (1 ≤ l.length)) = o := ⟨_, rfl⟩
  rw [ho1] at HN1
  have HO1 := hide ho1
  clear ho1
  have hkl := kd_lt l
  rw [hk] at hkl
  have hwk := wr_u8 k hkl
  have HK := hide hk
  have hk0 : 0 ≤ (k : Int) ∧ (k : Int) ≤ 255 := by omega
  have HRT := hide (fun W => right_any (k : Int) W)
  have HEV := hide (fun W => event_any (k : Int) W)
  clear hk hkl
  rw [show evB (k : Int) = true from decide_eq_true (by omega)] at HEV
  rw [show rtB (k : Int) = true from decide_eq_true (by omega)] at HRT
  have hln : 1 ≤ l.length := by
    cases l with
    | nil => have := HK.out; unfold kd at this; simp at this; omega
    | cons b l => simp
  have HLN := hide hln
  have q1 : o1 = true := by rw [← HO1.out]; simp; omega
  subst q1
  have H19 := hide h19
  clear hln
  have n10 : ((k : Int) == 10) = false := by rw [beq_eq_false_iff_ne]; omega
  have m10 : ¬ (k : Int) = 10 := by omega
  have n11 : ((k : Int) == 11) = false := by rw [beq_eq_false_iff_ne]; omega
  have m11 : ¬ (k : Int) = 11 := by omega
  have n12 : ((k : Int) == 12) = false := by rw [beq_eq_false_iff_ne]; omega
  have m12 : ¬ (k : Int) = 12 := by omega
  go_enter Try.func10, Try.ntmps10
  have hal := (Below.refl w.heap.size w).alloc (Nat.le_refl _) (.cells #[.int .u8 0, .int .u8 0, .int .u64 0, .int .i64 0, .int .i64 0, .int .i64 0, .int .u8 0, .string ⟨#[]⟩, .slice none 0 0, .int .i64 0] 39)
  have XA := hide (heap_new w (.cells #[.int .u8 0, .int .u8 0, .int .u64 0, .int .i64 0, .int .i64 0, .int .i64 0, .int .u8 0, .string ⟨#[]⟩, .slice none 0 0, .int .i64 0] 39))
  have BL := hide hal
  clear hal
  go_upto_region 1 with (fail)
  generalize w.alloc (.cells #[.int .u8 0, .int .u8 0, .int .u64 0, .int .i64 0, .int .i64 0, .int .i64 0, .int .u8 0, .string ⟨#[]⟩, .slice none 0 0, .int .i64 0] 39) = w1 at *
  generalize hra : w.heap.size = ra at XA ⊢
  have HRA := hide hra
  clear hra
  go_wp2_with fail
  refine (HRD.out _).mono ?_
  rintro e w2 ⟨rfl, hr, hb⟩
  have HRQ := hide hr
  have XA2 := hide ((hb.block _ (heap_lt XA.out)).trans XA.out)
  have BL2 := hide (BL.out.trans (hb.mono BL.out.size))
  have HPN := hide (show ra < w1.heap.size ∧ w.heap.size ≤ w1.heap.size from ⟨heap_lt XA.out, BL.out.size⟩)
  clear hr hb HRD XA BL
  generalize w1.heap.size = p at *
  go_wp2_with fail
  refine (HN1.out _ _ HRQ.out).mono ?_
  rintro e w3 ⟨rfl, hr, ho⟩
  have hp1 : ra ≠ p := by have := HPN.out; omega
  have hal := (Below.refl w3.heap.size w3).alloc (Nat.le_refl _) (.cells #[.int .u8 (k : Int), .int .u8 0, .int .u64 0, .int .i64 0, .int .i64 0, .int .i64 0, .int .u8 0, .string ⟨#[]⟩, .slice none 0 0, .int .i64 0] 39)
  have D0 := hide (show DcF w (w3.alloc (.cells #[.int .u8 (k : Int), .int .u8 0, .int .u64 0, .int .i64 0, .int .i64 0, .int .i64 0, .int .u8 0, .string ⟨#[]⟩, .slice none 0 0, .int .i64 0] 39)) p w3.heap.size ra true (l.drop 1) #[.int .u8 (k : Int), .int .u8 0, .int .u64 0, .int .i64 0, .int .i64 0, .int .i64 0, .int .u8 0, .string ⟨#[]⟩, .slice none 0 0, .int .i64 0] from by
    have b3 := ho.below BL2.out HPN.out.2 BL2.out.size
    have x3 := (ho.block _ (heap_lt XA2.out) hp1).trans XA2.out
    have l3 := heap_lt x3
    have p3 := hr.lt
    exact ⟨hr.below hal, heap_new _ _, (hal.block _ l3).trans x3, b3.alloc b3.size _, b3.size, by rw [HRA.out]; exact Nat.le_refl _, HPN.out.2, by omega, by omega, hp1⟩)
  clear hal hr ho XA2 BL2 HRQ HN1
  go_upto_region 3 with (fail)
  generalize w3.alloc (.cells #[.int .u8 (k : Int), .int .u8 0, .int .u64 0, .int .i64 0, .int .i64 0, .int .i64 0, .int .u8 0, .string ⟨#[]⟩, .slice none 0 0, .int .i64 0] 39) = w4 at *
  generalize w3.heap.size = rb at *
  have e0 : w4.cell? ⟨rb, 0, none⟩ = some (.int .u8 (k : Int)) := cell_of_block D0.out.box 0
  go_wp2_with fail
  refine (HEV.out _).mono ?_
  rintro e w5 ⟨rfl, rfl⟩
  go_wp2_with fail
  refine (rev_any p k H19.out l HLN.out HK.out w4 D0.out.rq).mono ?_
  rintro e w6 ⟨x, a, c, err, ok', l', rfl, hin, hr, ho, hiff, hx⟩
  have D1 := hide (D0.out.step hr ho)
  have LN1 := hide hin
  have HIFF := hide hiff
  have HX := hide hx
  have HLT := hide (show rb < w4.heap.size ∧ ra < w4.heap.size from ⟨heap_lt D0.out.box, heap_lt D0.out.res⟩)
  clear hin hr ho hiff hx e0
  unfold evC
  obtain ⟨⟨e0, e1, e2, e3, e4, e5, e6, e7, e8, e9⟩, ⟨z0, z1, z2, z3, z4, z5, z6, z7, z8, z9⟩⟩ := row10_facts D1.out.box
  have E1 := hide (show DcF w (w6.setCell ⟨rb, 1, none⟩ (.int .u8 x.ek)) p rb ra ok' l' #[.int .u8 (k : Int), .int .u8 x.ek, .int .u64 0, .int .i64 0, .int .i64 0, .int .i64 0, .int .u8 0, .string ⟨#[]⟩, .slice none 0 0, .int .i64 0] from D1.out.store 1 (.int .u8 x.ek))
  have M1 := hide (LN1.out.set (g := rb) HLT.out.1 1 (.int .u8 x.ek))
  have E2 := hide (show DcF w ((w6.setCell ⟨rb, 1, none⟩ (.int .u8 x.ek)).setCell ⟨rb, 2, none⟩ (.int .u64 x.key)) p rb ra ok' l' #[.int .u8 (k : Int), .int .u8 x.ek, .int .u64 x.key, .int .i64 0, .int .i64 0, .int .i64 0, .int .u8 0, .string ⟨#[]⟩, .slice none 0 0, .int .i64 0] from E1.out.store 2 (.int .u64 x.key))
  have M2 := hide (M1.out.set (g := rb) HLT.out.1 2 (.int .u64 x.key))
  have E3 := hide (show DcF w (((w6.setCell ⟨rb, 1, none⟩ (.int .u8 x.ek)).setCell ⟨rb, 2, none⟩ (.int .u64 x.key)).setCell ⟨rb, 3, none⟩ (.int .i64 x.ref)) p rb ra ok' l' #[.int .u8 (k : Int), .int .u8 x.ek, .int .u64 x.key, .int .i64 x.ref, .int .i64 0, .int .i64 0, .int .u8 0, .string ⟨#[]⟩, .slice none 0 0, .int .i64 0] from E2.out.store 3 (.int .i64 x.ref))
  have M3 := hide (M2.out.set (g := rb) HLT.out.1 3 (.int .i64 x.ref))
  have E4 := hide (show DcF w ((((w6.setCell ⟨rb, 1, none⟩ (.int .u8 x.ek)).setCell ⟨rb, 2, none⟩ (.int .u64 x.key)).setCell ⟨rb, 3, none⟩ (.int .i64 x.ref)).setCell ⟨rb, 4, none⟩ (.int .i64 x.amt)) p rb ra ok' l' #[.int .u8 (k : Int), .int .u8 x.ek, .int .u64 x.key, .int .i64 x.ref, .int .i64 x.amt, .int .i64 0, .int .u8 0, .string ⟨#[]⟩, .slice none 0 0, .int .i64 0] from E3.out.store 4 (.int .i64 x.amt))
  have M4 := hide (M3.out.set (g := rb) HLT.out.1 4 (.int .i64 x.amt))
  have E5 := hide (show DcF w (((((w6.setCell ⟨rb, 1, none⟩ (.int .u8 x.ek)).setCell ⟨rb, 2, none⟩ (.int .u64 x.key)).setCell ⟨rb, 3, none⟩ (.int .i64 x.ref)).setCell ⟨rb, 4, none⟩ (.int .i64 x.amt)).setCell ⟨rb, 5, none⟩ (.int .i64 x.code)) p rb ra ok' l' #[.int .u8 (k : Int), .int .u8 x.ek, .int .u64 x.key, .int .i64 x.ref, .int .i64 x.amt, .int .i64 x.code, .int .u8 0, .string ⟨#[]⟩, .slice none 0 0, .int .i64 0] from E4.out.store 5 (.int .i64 x.code))
  have M5 := hide (M4.out.set (g := rb) HLT.out.1 5 (.int .i64 x.code))
  have E6 := hide (show DcF w ((((((w6.setCell ⟨rb, 1, none⟩ (.int .u8 x.ek)).setCell ⟨rb, 2, none⟩ (.int .u64 x.key)).setCell ⟨rb, 3, none⟩ (.int .i64 x.ref)).setCell ⟨rb, 4, none⟩ (.int .i64 x.amt)).setCell ⟨rb, 5, none⟩ (.int .i64 x.code)).setCell ⟨rb, 6, none⟩ (.int .u8 x.ak)) p rb ra ok' l' #[.int .u8 (k : Int), .int .u8 x.ek, .int .u64 x.key, .int .i64 x.ref, .int .i64 x.amt, .int .i64 x.code, .int .u8 x.ak, .string ⟨#[]⟩, .slice none 0 0, .int .i64 0] from E5.out.store 6 (.int .u8 x.ak))
  have M6 := hide (M5.out.set (g := rb) HLT.out.1 6 (.int .u8 x.ak))
  have E7 := hide (show DcF w (((((((w6.setCell ⟨rb, 1, none⟩ (.int .u8 x.ek)).setCell ⟨rb, 2, none⟩ (.int .u64 x.key)).setCell ⟨rb, 3, none⟩ (.int .i64 x.ref)).setCell ⟨rb, 4, none⟩ (.int .i64 x.amt)).setCell ⟨rb, 5, none⟩ (.int .i64 x.code)).setCell ⟨rb, 6, none⟩ (.int .u8 x.ak)).setCell ⟨rb, 7, none⟩ (.string x.name)) p rb ra ok' l' #[.int .u8 (k : Int), .int .u8 x.ek, .int .u64 x.key, .int .i64 x.ref, .int .i64 x.amt, .int .i64 x.code, .int .u8 x.ak, .string x.name, .slice none 0 0, .int .i64 0] from E6.out.store 7 (.string x.name))
  have M7 := hide (M6.out.set (g := rb) HLT.out.1 7 (.string x.name))
  have E8 := hide (show DcF w ((((((((w6.setCell ⟨rb, 1, none⟩ (.int .u8 x.ek)).setCell ⟨rb, 2, none⟩ (.int .u64 x.key)).setCell ⟨rb, 3, none⟩ (.int .i64 x.ref)).setCell ⟨rb, 4, none⟩ (.int .i64 x.amt)).setCell ⟨rb, 5, none⟩ (.int .i64 x.code)).setCell ⟨rb, 6, none⟩ (.int .u8 x.ak)).setCell ⟨rb, 7, none⟩ (.string x.name)).setCell ⟨rb, 8, none⟩ (.slice a x.L.length c)) p rb ra ok' l' #[.int .u8 (k : Int), .int .u8 x.ek, .int .u64 x.key, .int .i64 x.ref, .int .i64 x.amt, .int .i64 x.code, .int .u8 x.ak, .string x.name, .slice a x.L.length c, .int .i64 0] from E7.out.store 8 (.slice a x.L.length c))
  have M8 := hide (M7.out.set (g := rb) HLT.out.1 8 (.slice a x.L.length c))
  go_upto_region 6 with (fail)
  clear e0 e1 e2 e3 e4 e5 e6 e7 e8 e9 z0 z1 z2 z3 z4 z5 z6 z7 z8 z9
  clear E1 M1 E2 M2 E3 M3 E4 M4 E5 M5 E6 M6 E7 M7 D1 LN1
  generalize ((((((((w6.setCell ⟨rb, 1, none⟩ (.int .u8 x.ek)).setCell ⟨rb, 2, none⟩ (.int .u64 x.key)).setCell ⟨rb, 3, none⟩ (.int .i64 x.ref)).setCell ⟨rb, 4, none⟩ (.int .i64 x.amt)).setCell ⟨rb, 5, none⟩ (.int .i64 x.code)).setCell ⟨rb, 6, none⟩ (.int .u8 x.ak)).setCell ⟨rb, 7, none⟩ (.string x.name)).setCell ⟨rb, 8, none⟩ (.slice a x.L.length c)) = u at *
  have e0 := cell_of_block E8.out.box 0
  have HEN := hide (rq_end p ok' l' u E8.out.rq)
  by_cases hd : decO l = true
  · have HD := hide hd
    have HXE := hide (HX.out hd)
    obtain ⟨rfl, rfl, rfl⟩ := HIFF.out.2 hd
    clear hd HX HIFF
    rw [show endZ true [] = 0 from rfl] at HEN
    go_wp2_with fail
    refine HEN.out.mono ?_
    rintro e w7 ⟨rfl, rfl⟩
    go_wp2_with fail
    refine (HRT.out _).mono ?_
    rintro e w7 ⟨rfl, rfl⟩
    clear e0
    have HXR := hide (show x.k = (k : Int) ∧ x.n = 0 from by
      rw [HXE.out, decR_k, HK.out]
      have h19 := H19.out
      exact ⟨rfl, by unfold decR; rw [HK.out]; dsimp only; rw [if_neg (by omega), if_neg (by omega)]⟩)
    obtain ⟨⟨e0, e1, e2, e3, e4, e5, e6, e7, e8, e9⟩, -⟩ := row10_facts E8.out.box
    obtain ⟨-, ⟨z0, z1, z2, z3, z4, z5, z6, z7, z8, z9⟩⟩ := row10_facts E8.out.res
    obtain ⟨⟨g0, g1, g2, g3, g4, g5, g6, g7, g8, g9⟩, -⟩ := row10_facts E8.out.res
    have hne : ¬ rb = ra := E8.out.new.2.2.2.1
    have hne2 : ¬ ra = rb := fun h => hne h.symm
    go_wp2_with fail
    (try simp only [Exit.inBlock, Exit.then])
    refine bodyPost_ret (res_cell2 (P := Try.prog) rfl _ _ ra 39 #[.int .u8 (k : Int), .int .u8 x.ek, .int .u64 x.key, .int .i64 x.ref, .int .i64 x.amt, .int .i64 x.code, .int .u8 x.ak, .string x.name, .slice a x.L.length c, .int .i64 0] (0, 0) _ rfl (row10_set E8.out.res) Try.underlying39 rfl (by kernel_rfl)) rfl ?_
    obtain ⟨y1, y2⟩ := dec_yes HD.out
    rw [← HXE.out] at y2
    refine ⟨a, c, by rw [y1, y2]; unfold rqC; rw [HXR.out.1, HXR.out.2]; rfl, by rw [y2]; exact (M8.out.done10 HLT.out.2 _ _ _ _ _ _ _ _ _ _).in, E8.out.done (.int .u8 (k : Int)) (.int .u8 x.ek) (.int .u64 x.key) (.int .i64 x.ref) (.int .i64 x.amt) (.int .i64 x.code) (.int .u8 x.ak) (.string x.name) (.slice a x.L.length c) (.int .i64 0)⟩
  · have HDN := hide hd
    by_cases he : err = 0
    · subst he
      have hE : ¬ (ok' = true ∧ l' = []) := fun h => hd (HIFF.out.1 ⟨rfl, h⟩)
      rw [show endZ ok' l' = 4 from if_neg hE] at HEN
      clear hE hd HIFF HX
      go_wp2_with fail
      refine HEN.out.mono ?_
      rintro e w7 ⟨rfl, rfl⟩
      clear e0
      obtain ⟨⟨e0, e1, e2, e3, e4, e5, e6, e7, e8, e9⟩, -⟩ := row10_facts E8.out.box
      obtain ⟨-, ⟨z0, z1, z2, z3, z4, z5, z6, z7, z8, z9⟩⟩ := row10_facts E8.out.res
      obtain ⟨⟨g0, g1, g2, g3, g4, g5, g6, g7, g8, g9⟩, -⟩ := row10_facts E8.out.res
      have hne : ¬ rb = ra := E8.out.new.2.2.2.1
      have hne2 : ¬ ra = rb := fun h => hne h.symm
      go_wp2_with fail
      (try simp only [Exit.inBlock, Exit.then])
      refine bodyPost_ret (res_cell2 (P := Try.prog) rfl _ _ ra 39 #[.int .u8 0, .int .u8 0, .int .u64 0, .int .i64 0, .int .i64 0, .int .i64 0, .int .u8 0, .string ⟨#[]⟩, .slice none 0 0, .int .i64 0] (0, 0) _ rfl (row10_set E8.out.res) Try.underlying39 rfl (by kernel_rfl)) rfl ?_
      obtain ⟨y1, y2⟩ := dec_no HDN.out
      refine ⟨none, 0, by rw [y1, y2]; rfl, by rw [y2]; exact fun i hi => absurd hi (Nat.not_lt_zero i), E8.out.done (.int .u8 0) (.int .u8 0) (.int .u64 0) (.int .i64 0) (.int .i64 0) (.int .i64 0) (.int .u8 0) (.string ⟨#[]⟩) (.slice none 0 0) (.int .i64 0)⟩
    · have he1 : (err == 0) = false := beq_eq_false_iff_ne.mpr he
      have he2 : (err != 0) = true := by simpa using he
      clear hd HIFF HX e0
      obtain ⟨⟨e0, e1, e2, e3, e4, e5, e6, e7, e8, e9⟩, -⟩ := row10_facts E8.out.box
      obtain ⟨-, ⟨z0, z1, z2, z3, z4, z5, z6, z7, z8, z9⟩⟩ := row10_facts E8.out.res
      obtain ⟨⟨g0, g1, g2, g3, g4, g5, g6, g7, g8, g9⟩, -⟩ := row10_facts E8.out.res
      have hne : ¬ rb = ra := E8.out.new.2.2.2.1
      have hne2 : ¬ ra = rb := fun h => hne h.symm
      go_wp2_with fail
      (try simp only [Exit.inBlock, Exit.then])
      refine bodyPost_ret (res_cell2 (P := Try.prog) rfl _ _ ra 39 #[.int .u8 0, .int .u8 0, .int .u64 0, .int .i64 0, .int .i64 0, .int .i64 0, .int .u8 0, .string ⟨#[]⟩, .slice none 0 0, .int .i64 0] (0, 0) _ rfl (row10_set E8.out.res) Try.underlying39 rfl (by kernel_rfl)) rfl ?_
      obtain ⟨y1, y2⟩ := dec_no HDN.out
      refine ⟨none, 0, by rw [y1, y2]; rfl, by rw [y2]; exact fun i hi => absurd hi (Nat.not_lt_zero i), E8.out.done (.int .u8 0) (.int .u8 0) (.int .u64 0) (.int .i64 0) (.int .i64 0) (.int .i64 0) (.int .u8 0) (.string ⟨#[]⟩) (.slice none 0 0) (.int .i64 0)⟩
set_option maxRecDepth 100000 in
set_option maxHeartbeats 1000000 in
theorem dec_ten (l : List UInt8) (hl : l.length ≤ 1000000) (hk : kd l = 10) (w : World) : Calls Try.prog 10 #[.string (bs l)] w (DecIs l w) := by
  have HRD := hide (fun W => rq_new l hl W)
  have HN1 := hide (fun p W hw => rq_number p true l 1 (by decide) (by decide) W hw)
  unfold RNIs at HN1
  rw [vN_kd, hk] at HN1
  obtain ⟨o1, ho1⟩ : ∃ o, (true && decide (1 ≤ l.length)) = o := ⟨_, rfl⟩
  rw [ho1] at HN1
  have HO1 := hide ho1
  clear ho1
  have hkl := kd_lt l
  have HK := hide hk
  have HRT := hide (fun W => right_any 10 W)
  have HEV := hide (fun W => event_any 10 W)
  clear hk hkl
  rw [show evB 10 = false from rfl] at HEV
  rw [show rtB 10 = true from rfl] at HRT
  have hln : 1 ≤ l.length := by
    cases l with
    | nil => have := HK.out; unfold kd at this; simp at this
    | cons b l => simp
  have q1 : o1 = true := by rw [← HO1.out]; simp; omega
  subst q1
  have HC2 := hide (fun p W hw => rq_number p true (l.drop 1) 2 (by decide) (by decide) W hw)
  unfold RNIs at HC2
  rw [List.drop_drop] at HC2
  obtain ⟨n2, hn2⟩ : ∃ n : Nat, vN true (l.drop 1) 2 = n := ⟨_, rfl⟩
  have hbn2 := vN_lt true (l.drop 1) 2
  rw [hn2] at HC2 hbn2
  have HV2 := hide hn2
  obtain ⟨cn2a, cn2b⟩ := wr_i64 n2 (by omega)
  have dn2 : 0 ≤ (n2 : Int) ∧ (n2 : Int) ≤ 4294967295 := by omega
  obtain ⟨o2, ho2⟩ : ∃ o, (true && decide (2 ≤ (l.drop 1).length)) = o := ⟨_, rfl⟩
  rw [ho2] at HC2
  have HO2 := hide ho2
  clear hn2 hbn2 ho2
  have HIFF := hide (show (o2 = true ∧ l.drop (1 + 2) = []) ↔ decO l = true from by
    unfold decO
    rw [lenOf_10 HK.out, decide_eq_true_eq, HK.out]
    constructor
    · rintro ⟨h2, h3⟩
      have h4 := congrArg List.length h3
      rw [List.length_drop] at h4
      simp at h4
      rw [← HO2.out, Bool.true_and, decide_eq_true_eq, List.length_drop] at h2
      exact ⟨by omega, by decide, by decide, by omega, fun h => absurd h (by decide)⟩
    · rintro ⟨-, -, -, h4, -⟩
      exact ⟨by rw [← HO2.out]; simp; omega, List.drop_of_length_le (by omega)⟩)
  have HXE := hide (fun hd : decO l = true => show decR l = { rq0 with k := 10, n := n2 } from by
    rw [decR_10 HK.out]
    obtain ⟨-, -, -, h4, -⟩ := of_decide_eq_true hd
    rw [lenOf_10 HK.out] at h4
    rw [show n2 = fl l 1 2 by rw [← HV2.out]; exact vN_fl l 1 2 (by omega)])
  clear hln
  go_enter Try.func10, Try.ntmps10
  have hal := (Below.refl w.heap.size w).alloc (Nat.le_refl _) (.cells #[.int .u8 0, .int .u8 0, .int .u64 0, .int .i64 0, .int .i64 0, .int .i64 0, .int .u8 0, .string ⟨#[]⟩, .slice none 0 0, .int .i64 0] 39)
  have XA := hide (heap_new w (.cells #[.int .u8 0, .int .u8 0, .int .u64 0, .int .i64 0, .int .i64 0, .int .i64 0, .int .u8 0, .string ⟨#[]⟩, .slice none 0 0, .int .i64 0] 39))
  have BL := hide hal
  clear hal
  go_upto_region 1 with (fail)
  generalize w.alloc (.cells #[.int .u8 0, .int .u8 0, .int .u64 0, .int .i64 0, .int .i64 0, .int .i64 0, .int .u8 0, .string ⟨#[]⟩, .slice none 0 0, .int .i64 0] 39) = w1 at *
  generalize hra : w.heap.size = ra at XA ⊢
  have HRA := hide hra
  clear hra
  go_wp2_with fail
  refine (HRD.out _).mono ?_
  rintro e w2 ⟨rfl, hr, hb⟩
  have HRQ := hide hr
  have XA2 := hide ((hb.block _ (heap_lt XA.out)).trans XA.out)
  have BL2 := hide (BL.out.trans (hb.mono BL.out.size))
  have HPN := hide (show ra < w1.heap.size ∧ w.heap.size ≤ w1.heap.size from ⟨heap_lt XA.out, BL.out.size⟩)
  clear hr hb HRD XA BL
  generalize w1.heap.size = p at *
  go_wp2_with fail
  refine (HN1.out _ _ HRQ.out).mono ?_
  rintro e w3 ⟨rfl, hr, ho⟩
  have hp1 : ra ≠ p := by have := HPN.out; omega
  have hal := (Below.refl w3.heap.size w3).alloc (Nat.le_refl _) (.cells #[.int .u8 10, .int .u8 0, .int .u64 0, .int .i64 0, .int .i64 0, .int .i64 0, .int .u8 0, .string ⟨#[]⟩, .slice none 0 0, .int .i64 0] 39)
  have D0 := hide (show DcF w (w3.alloc (.cells #[.int .u8 10, .int .u8 0, .int .u64 0, .int .i64 0, .int .i64 0, .int .i64 0, .int .u8 0, .string ⟨#[]⟩, .slice none 0 0, .int .i64 0] 39)) p w3.heap.size ra true (l.drop 1) #[.int .u8 10, .int .u8 0, .int .u64 0, .int .i64 0, .int .i64 0, .int .i64 0, .int .u8 0, .string ⟨#[]⟩, .slice none 0 0, .int .i64 0] from by
    have b3 := ho.below BL2.out HPN.out.2 BL2.out.size
    have x3 := (ho.block _ (heap_lt XA2.out) hp1).trans XA2.out
    have l3 := heap_lt x3
    have p3 := hr.lt
    exact ⟨hr.below hal, heap_new _ _, (hal.block _ l3).trans x3, b3.alloc b3.size _, b3.size, by rw [HRA.out]; exact Nat.le_refl _, HPN.out.2, by omega, by omega, hp1⟩)
  clear hal hr ho XA2 BL2 HRQ HN1
  go_upto_region 3 with (fail)
  generalize w3.alloc (.cells #[.int .u8 10, .int .u8 0, .int .u64 0, .int .i64 0, .int .i64 0, .int .i64 0, .int .u8 0, .string ⟨#[]⟩, .slice none 0 0, .int .i64 0] 39) = w4 at *
  generalize w3.heap.size = rb at *
  have e0 : w4.cell? ⟨rb, 0, none⟩ = some (.int .u8 10) := cell_of_block D0.out.box 0
  go_wp2_with fail
  refine (HEV.out _).mono ?_
  rintro e w5 ⟨rfl, rfl⟩
  go_wp2_with fail
  refine (HC2.out _ _ D0.out.rq).mono ?_
  rintro e w6 ⟨rfl, hr, ho⟩
  have D1 := hide (D0.out.step hr ho)
  clear hr ho e0 D0
  obtain ⟨⟨e0, e1, e2, e3, e4, e5, e6, e7, e8, e9⟩, ⟨z0, z1, z2, z3, z4, z5, z6, z7, z8, z9⟩⟩ := row10_facts D1.out.box
  have E1 := hide (show DcF w (w6.setCell ⟨rb, 9, none⟩ (.int .i64 (n2 : Int))) p rb ra o2 (l.drop (1 + 2)) #[.int .u8 10, .int .u8 0, .int .u64 0, .int .i64 0, .int .i64 0, .int .i64 0, .int .u8 0, .string ⟨#[]⟩, .slice none 0 0, .int .i64 (n2 : Int)] from D1.out.store 9 (.int .i64 (n2 : Int)))
  go_upto_region 12 with (fail)
  clear e0 e1 e2 e3 e4 e5 e6 e7 e8 e9 z0 z1 z2 z3 z4 z5 z6 z7 z8 z9 D1
  generalize w6.setCell ⟨rb, 9, none⟩ (.int .i64 (n2 : Int)) = u at *
  have e0 := cell_of_block E1.out.box 0
  have HEN := hide (rq_end p o2 (l.drop (1 + 2)) u E1.out.rq)
  by_cases hd : decO l = true
  · have HD := hide hd
    rw [show endZ o2 (l.drop (1 + 2)) = 0 from if_pos (HIFF.out.2 hd)] at HEN
    clear hd
    go_wp2_with fail
    refine HEN.out.mono ?_
    rintro e w7 ⟨rfl, rfl⟩
    go_wp2_with fail
    refine (HRT.out _).mono ?_
    rintro e w7 ⟨rfl, rfl⟩
    clear e0
    obtain ⟨⟨e0, e1, e2, e3, e4, e5, e6, e7, e8, e9⟩, -⟩ := row10_facts E1.out.box
    obtain ⟨-, ⟨z0, z1, z2, z3, z4, z5, z6, z7, z8, z9⟩⟩ := row10_facts E1.out.res
    obtain ⟨⟨g0, g1, g2, g3, g4, g5, g6, g7, g8, g9⟩, -⟩ := row10_facts E1.out.res
    have hne : ¬ rb = ra := E1.out.new.2.2.2.1
    have hne2 : ¬ ra = rb := fun h => hne h.symm
    go_wp2_with fail
    (try simp only [Exit.inBlock, Exit.then])
    refine bodyPost_ret (res_cell2 (P := Try.prog) rfl _ _ ra 39 #[.int .u8 10, .int .u8 0, .int .u64 0, .int .i64 0, .int .i64 0, .int .i64 0, .int .u8 0, .string ⟨#[]⟩, .slice none 0 0, .int .i64 (n2 : Int)] (0, 0) _ rfl (row10_set E1.out.res) Try.underlying39 rfl (by kernel_rfl)) rfl ?_
    obtain ⟨y1, y2⟩ := dec_yes HD.out
    rw [HXE.out HD.out] at y2
    refine ⟨none, 0, by rw [y1, y2]; rfl, by rw [y2]; exact fun i hi => absurd hi (Nat.not_lt_zero i), E1.out.done (.int .u8 10) (.int .u8 0) (.int .u64 0) (.int .i64 0) (.int .i64 0) (.int .i64 0) (.int .u8 0) (.string ⟨#[]⟩) (.slice none 0 0) (.int .i64 (n2 : Int))⟩
  · have HDN := hide hd
    rw [show endZ o2 (l.drop (1 + 2)) = 4 from if_neg (fun h => hd (HIFF.out.1 h))] at HEN
    clear hd
    go_wp2_with fail
    refine HEN.out.mono ?_
    rintro e w7 ⟨rfl, rfl⟩
    clear e0
    obtain ⟨⟨e0, e1, e2, e3, e4, e5, e6, e7, e8, e9⟩, -⟩ := row10_facts E1.out.box
    obtain ⟨-, ⟨z0, z1, z2, z3, z4, z5, z6, z7, z8, z9⟩⟩ := row10_facts E1.out.res
    obtain ⟨⟨g0, g1, g2, g3, g4, g5, g6, g7, g8, g9⟩, -⟩ := row10_facts E1.out.res
    have hne : ¬ rb = ra := E1.out.new.2.2.2.1
    have hne2 : ¬ ra = rb := fun h => hne h.symm
    go_wp2_with fail
    (try simp only [Exit.inBlock, Exit.then])
    refine bodyPost_ret (res_cell2 (P := Try.prog) rfl _ _ ra 39 #[.int .u8 0, .int .u8 0, .int .u64 0, .int .i64 0, .int .i64 0, .int .i64 0, .int .u8 0, .string ⟨#[]⟩, .slice none 0 0, .int .i64 0] (0, 0) _ rfl (row10_set E1.out.res) Try.underlying39 rfl (by kernel_rfl)) rfl ?_
    obtain ⟨y1, y2⟩ := dec_no HDN.out
    refine ⟨none, 0, by rw [y1, y2]; rfl, by rw [y2]; exact fun i hi => absurd hi (Nat.not_lt_zero i), E1.out.done (.int .u8 0) (.int .u8 0) (.int .u64 0) (.int .i64 0) (.int .i64 0) (.int .i64 0) (.int .u8 0) (.string ⟨#[]⟩) (.slice none 0 0) (.int .i64 0)⟩
set_option maxRecDepth 100000 in
set_option maxHeartbeats 1000000 in
theorem dec_eleven (l : List UInt8) (hl : l.length ≤ 1000000) (hk : kd l = 11) (w : World) : Calls Try.prog 10 #[.string (bs l)] w (DecIs l w) := by
  have HRD := hide (fun W => rq_new l hl W)
  have HN1 := hide (fun p W hw => rq_number p true l 1 (by decide) (by decide) W hw)
  unfold RNIs at HN1
  rw [vN_kd, hk] at HN1
  obtain ⟨o1, ho1⟩ : ∃ o, (true && decide (1 ≤ l.length)) = o := ⟨_, rfl⟩
  rw [ho1] at HN1
  have HO1 := hide ho1
  clear ho1
  have hkl := kd_lt l
  have HK := hide hk
  have HRT := hide (fun W => right_any 11 W)
  have HEV := hide (fun W => event_any 11 W)
  clear hk hkl
  rw [show evB 11 = false from rfl] at HEV
  rw [show rtB 11 = true from rfl] at HRT
  have hln : 1 ≤ l.length := by
    cases l with
    | nil => have := HK.out; unfold kd at this; simp at this
    | cons b l => simp
  have q1 : o1 = true := by rw [← HO1.out]; simp; omega
  subst q1
  have HC2 := hide (fun p W hw => rq_number p true (l.drop 1) 4 (by decide) (by decide) W hw)
  unfold RNIs at HC2
  rw [List.drop_drop] at HC2
  obtain ⟨n2, hn2⟩ : ∃ n : Nat, vN true (l.drop 1) 4 = n := ⟨_, rfl⟩
  have hbn2 := vN_lt true (l.drop 1) 4
  rw [hn2] at HC2 hbn2
  have HV2 := hide hn2
  obtain ⟨cn2a, cn2b⟩ := wr_i64 n2 (by omega)
  have dn2 : 0 ≤ (n2 : Int) ∧ (n2 : Int) ≤ 4294967295 := by omega
  obtain ⟨o2, ho2⟩ : ∃ o, (true && decide (4 ≤ (l.drop 1).length)) = o := ⟨_, rfl⟩
  rw [ho2] at HC2
  have HO2 := hide ho2
  clear hn2 hbn2 ho2
  have HIFF := hide (show (o2 = true ∧ l.drop (1 + 4) = []) ↔ decO l = true from by
    unfold decO
    rw [lenOf_11 (Or.inl HK.out), decide_eq_true_eq, HK.out]
    constructor
    · rintro ⟨h2, h3⟩
      have h4 := congrArg List.length h3
      rw [List.length_drop] at h4
      simp at h4
      rw [← HO2.out, Bool.true_and, decide_eq_true_eq, List.length_drop] at h2
      exact ⟨by omega, by decide, by decide, by omega, fun h => absurd h (by decide)⟩
    · rintro ⟨-, -, -, h4, -⟩
      exact ⟨by rw [← HO2.out]; simp; omega, List.drop_of_length_le (by omega)⟩)
  have HXE := hide (fun hd : decO l = true => show decR l = { rq0 with k := 11, n := n2 } from by
    rw [decR_11 HK.out]
    obtain ⟨-, -, -, h4, -⟩ := of_decide_eq_true hd
    rw [lenOf_11 (Or.inl HK.out)] at h4
    rw [show n2 = fl l 1 4 by rw [← HV2.out]; exact vN_fl l 1 4 (by omega)])
  clear hln
  go_enter Try.func10, Try.ntmps10
  have hal := (Below.refl w.heap.size w).alloc (Nat.le_refl _) (.cells #[.int .u8 0, .int .u8 0, .int .u64 0, .int .i64 0, .int .i64 0, .int .i64 0, .int .u8 0, .string ⟨#[]⟩, .slice none 0 0, .int .i64 0] 39)
  have XA := hide (heap_new w (.cells #[.int .u8 0, .int .u8 0, .int .u64 0, .int .i64 0, .int .i64 0, .int .i64 0, .int .u8 0, .string ⟨#[]⟩, .slice none 0 0, .int .i64 0] 39))
  have BL := hide hal
  clear hal
  go_upto_region 1 with (fail)
  generalize w.alloc (.cells #[.int .u8 0, .int .u8 0, .int .u64 0, .int .i64 0, .int .i64 0, .int .i64 0, .int .u8 0, .string ⟨#[]⟩, .slice none 0 0, .int .i64 0] 39) = w1 at *
  generalize hra : w.heap.size = ra at XA ⊢
  have HRA := hide hra
  clear hra
  go_wp2_with fail
  refine (HRD.out _).mono ?_
  rintro e w2 ⟨rfl, hr, hb⟩
  have HRQ := hide hr
  have XA2 := hide ((hb.block _ (heap_lt XA.out)).trans XA.out)
  have BL2 := hide (BL.out.trans (hb.mono BL.out.size))
  have HPN := hide (show ra < w1.heap.size ∧ w.heap.size ≤ w1.heap.size from ⟨heap_lt XA.out, BL.out.size⟩)
  clear hr hb HRD XA BL
  generalize w1.heap.size = p at *
  go_wp2_with fail
  refine (HN1.out _ _ HRQ.out).mono ?_
  rintro e w3 ⟨rfl, hr, ho⟩
  have hp1 : ra ≠ p := by have := HPN.out; omega
  have hal := (Below.refl w3.heap.size w3).alloc (Nat.le_refl _) (.cells #[.int .u8 11, .int .u8 0, .int .u64 0, .int .i64 0, .int .i64 0, .int .i64 0, .int .u8 0, .string ⟨#[]⟩, .slice none 0 0, .int .i64 0] 39)
  have D0 := hide (show DcF w (w3.alloc (.cells #[.int .u8 11, .int .u8 0, .int .u64 0, .int .i64 0, .int .i64 0, .int .i64 0, .int .u8 0, .string ⟨#[]⟩, .slice none 0 0, .int .i64 0] 39)) p w3.heap.size ra true (l.drop 1) #[.int .u8 11, .int .u8 0, .int .u64 0, .int .i64 0, .int .i64 0, .int .i64 0, .int .u8 0, .string ⟨#[]⟩, .slice none 0 0, .int .i64 0] from by
    have b3 := ho.below BL2.out HPN.out.2 BL2.out.size
    have x3 := (ho.block _ (heap_lt XA2.out) hp1).trans XA2.out
    have l3 := heap_lt x3
    have p3 := hr.lt
    exact ⟨hr.below hal, heap_new _ _, (hal.block _ l3).trans x3, b3.alloc b3.size _, b3.size, by rw [HRA.out]; exact Nat.le_refl _, HPN.out.2, by omega, by omega, hp1⟩)
  clear hal hr ho XA2 BL2 HRQ HN1
  go_upto_region 3 with (fail)
  generalize w3.alloc (.cells #[.int .u8 11, .int .u8 0, .int .u64 0, .int .i64 0, .int .i64 0, .int .i64 0, .int .u8 0, .string ⟨#[]⟩, .slice none 0 0, .int .i64 0] 39) = w4 at *
  generalize w3.heap.size = rb at *
  have e0 : w4.cell? ⟨rb, 0, none⟩ = some (.int .u8 11) := cell_of_block D0.out.box 0
  go_wp2_with fail
  refine (HEV.out _).mono ?_
  rintro e w5 ⟨rfl, rfl⟩
  go_wp2_with fail
  refine (HC2.out _ _ D0.out.rq).mono ?_
  rintro e w6 ⟨rfl, hr, ho⟩
  have D1 := hide (D0.out.step hr ho)
  clear hr ho e0 D0
  obtain ⟨⟨e0, e1, e2, e3, e4, e5, e6, e7, e8, e9⟩, ⟨z0, z1, z2, z3, z4, z5, z6, z7, z8, z9⟩⟩ := row10_facts D1.out.box
  have E1 := hide (show DcF w (w6.setCell ⟨rb, 9, none⟩ (.int .i64 (n2 : Int))) p rb ra o2 (l.drop (1 + 4)) #[.int .u8 11, .int .u8 0, .int .u64 0, .int .i64 0, .int .i64 0, .int .i64 0, .int .u8 0, .string ⟨#[]⟩, .slice none 0 0, .int .i64 (n2 : Int)] from D1.out.store 9 (.int .i64 (n2 : Int)))
  go_upto_region 12 with (fail)
  clear e0 e1 e2 e3 e4 e5 e6 e7 e8 e9 z0 z1 z2 z3 z4 z5 z6 z7 z8 z9 D1
  generalize w6.setCell ⟨rb, 9, none⟩ (.int .i64 (n2 : Int)) = u at *
  have e0 := cell_of_block E1.out.box 0
  have HEN := hide (rq_end p o2 (l.drop (1 + 4)) u E1.out.rq)
  by_cases hd : decO l = true
  · have HD := hide hd
    rw [show endZ o2 (l.drop (1 + 4)) = 0 from if_pos (HIFF.out.2 hd)] at HEN
    clear hd
    go_wp2_with fail
    refine HEN.out.mono ?_
    rintro e w7 ⟨rfl, rfl⟩
    go_wp2_with fail
    refine (HRT.out _).mono ?_
    rintro e w7 ⟨rfl, rfl⟩
    clear e0
    obtain ⟨⟨e0, e1, e2, e3, e4, e5, e6, e7, e8, e9⟩, -⟩ := row10_facts E1.out.box
    obtain ⟨-, ⟨z0, z1, z2, z3, z4, z5, z6, z7, z8, z9⟩⟩ := row10_facts E1.out.res
    obtain ⟨⟨g0, g1, g2, g3, g4, g5, g6, g7, g8, g9⟩, -⟩ := row10_facts E1.out.res
    have hne : ¬ rb = ra := E1.out.new.2.2.2.1
    have hne2 : ¬ ra = rb := fun h => hne h.symm
    go_wp2_with fail
    (try simp only [Exit.inBlock, Exit.then])
    refine bodyPost_ret (res_cell2 (P := Try.prog) rfl _ _ ra 39 #[.int .u8 11, .int .u8 0, .int .u64 0, .int .i64 0, .int .i64 0, .int .i64 0, .int .u8 0, .string ⟨#[]⟩, .slice none 0 0, .int .i64 (n2 : Int)] (0, 0) _ rfl (row10_set E1.out.res) Try.underlying39 rfl (by kernel_rfl)) rfl ?_
    obtain ⟨y1, y2⟩ := dec_yes HD.out
    rw [HXE.out HD.out] at y2
    refine ⟨none, 0, by rw [y1, y2]; rfl, by rw [y2]; exact fun i hi => absurd hi (Nat.not_lt_zero i), E1.out.done (.int .u8 11) (.int .u8 0) (.int .u64 0) (.int .i64 0) (.int .i64 0) (.int .i64 0) (.int .u8 0) (.string ⟨#[]⟩) (.slice none 0 0) (.int .i64 (n2 : Int))⟩
  · have HDN := hide hd
    rw [show endZ o2 (l.drop (1 + 4)) = 4 from if_neg (fun h => hd (HIFF.out.1 h))] at HEN
    clear hd
    go_wp2_with fail
    refine HEN.out.mono ?_
    rintro e w7 ⟨rfl, rfl⟩
    clear e0
    obtain ⟨⟨e0, e1, e2, e3, e4, e5, e6, e7, e8, e9⟩, -⟩ := row10_facts E1.out.box
    obtain ⟨-, ⟨z0, z1, z2, z3, z4, z5, z6, z7, z8, z9⟩⟩ := row10_facts E1.out.res
    obtain ⟨⟨g0, g1, g2, g3, g4, g5, g6, g7, g8, g9⟩, -⟩ := row10_facts E1.out.res
    have hne : ¬ rb = ra := E1.out.new.2.2.2.1
    have hne2 : ¬ ra = rb := fun h => hne h.symm
    go_wp2_with fail
    (try simp only [Exit.inBlock, Exit.then])
    refine bodyPost_ret (res_cell2 (P := Try.prog) rfl _ _ ra 39 #[.int .u8 0, .int .u8 0, .int .u64 0, .int .i64 0, .int .i64 0, .int .i64 0, .int .u8 0, .string ⟨#[]⟩, .slice none 0 0, .int .i64 0] (0, 0) _ rfl (row10_set E1.out.res) Try.underlying39 rfl (by kernel_rfl)) rfl ?_
    obtain ⟨y1, y2⟩ := dec_no HDN.out
    refine ⟨none, 0, by rw [y1, y2]; rfl, by rw [y2]; exact fun i hi => absurd hi (Nat.not_lt_zero i), E1.out.done (.int .u8 0) (.int .u8 0) (.int .u64 0) (.int .i64 0) (.int .i64 0) (.int .i64 0) (.int .u8 0) (.string ⟨#[]⟩) (.slice none 0 0) (.int .i64 0)⟩
set_option maxRecDepth 100000 in
set_option maxHeartbeats 1000000 in
theorem dec_twelve (l : List UInt8) (hl : l.length ≤ 1000000) (hk : kd l = 12) (w : World) : Calls Try.prog 10 #[.string (bs l)] w (DecIs l w) := by
  have HRD := hide (fun W => rq_new l hl W)
  have HN1 := hide (fun p W hw => rq_number p true l 1 (by decide) (by decide) W hw)
  unfold RNIs at HN1
  rw [vN_kd, hk] at HN1
  obtain ⟨o1, ho1⟩ : ∃ o, (true && decide (1 ≤ l.length)) = o := ⟨_, rfl⟩
  rw [ho1] at HN1
  have HO1 := hide ho1
  clear ho1
  have hkl := kd_lt l
  have HK := hide hk
  have HRT := hide (fun W => right_any 12 W)
  have HEV := hide (fun W => event_any 12 W)
  clear hk hkl
  rw [show evB 12 = false from rfl] at HEV
  rw [show rtB 12 = true from rfl] at HRT
  have hln : 1 ≤ l.length := by
    cases l with
    | nil => have := HK.out; unfold kd at this; simp at this
    | cons b l => simp
  have q1 : o1 = true := by rw [← HO1.out]; simp; omega
  subst q1
  have HC2 := hide (fun p W hw => rq_number p true (l.drop 1) 4 (by decide) (by decide) W hw)
  unfold RNIs at HC2
  rw [List.drop_drop] at HC2
  obtain ⟨n2, hn2⟩ : ∃ n : Nat, vN true (l.drop 1) 4 = n := ⟨_, rfl⟩
  have hbn2 := vN_lt true (l.drop 1) 4
  rw [hn2] at HC2 hbn2
  have HV2 := hide hn2
  obtain ⟨cn2a, cn2b⟩ := wr_i64 n2 (by omega)
  have dn2 : 0 ≤ (n2 : Int) ∧ (n2 : Int) ≤ 4294967295 := by omega
  obtain ⟨o2, ho2⟩ : ∃ o, (true && decide (4 ≤ (l.drop 1).length)) = o := ⟨_, rfl⟩
  rw [ho2] at HC2
  have HO2 := hide ho2
  clear hn2 hbn2 ho2
  have HIFF := hide (show (o2 = true ∧ l.drop (1 + 4) = []) ↔ decO l = true from by
    unfold decO
    rw [lenOf_11 (Or.inr HK.out), decide_eq_true_eq, HK.out]
    constructor
    · rintro ⟨h2, h3⟩
      have h4 := congrArg List.length h3
      rw [List.length_drop] at h4
      simp at h4
      rw [← HO2.out, Bool.true_and, decide_eq_true_eq, List.length_drop] at h2
      exact ⟨by omega, by decide, by decide, by omega, fun h => absurd h (by decide)⟩
    · rintro ⟨-, -, -, h4, -⟩
      exact ⟨by rw [← HO2.out]; simp; omega, List.drop_of_length_le (by omega)⟩)
  have HXE := hide (fun hd : decO l = true => show decR l = { rq0 with k := 12, n := n2 } from by
    rw [decR_12 HK.out]
    obtain ⟨-, -, -, h4, -⟩ := of_decide_eq_true hd
    rw [lenOf_11 (Or.inr HK.out)] at h4
    rw [show n2 = fl l 1 4 by rw [← HV2.out]; exact vN_fl l 1 4 (by omega)])
  clear hln
  go_enter Try.func10, Try.ntmps10
  have hal := (Below.refl w.heap.size w).alloc (Nat.le_refl _) (.cells #[.int .u8 0, .int .u8 0, .int .u64 0, .int .i64 0, .int .i64 0, .int .i64 0, .int .u8 0, .string ⟨#[]⟩, .slice none 0 0, .int .i64 0] 39)
  have XA := hide (heap_new w (.cells #[.int .u8 0, .int .u8 0, .int .u64 0, .int .i64 0, .int .i64 0, .int .i64 0, .int .u8 0, .string ⟨#[]⟩, .slice none 0 0, .int .i64 0] 39))
  have BL := hide hal
  clear hal
  go_upto_region 1 with (fail)
  generalize w.alloc (.cells #[.int .u8 0, .int .u8 0, .int .u64 0, .int .i64 0, .int .i64 0, .int .i64 0, .int .u8 0, .string ⟨#[]⟩, .slice none 0 0, .int .i64 0] 39) = w1 at *
  generalize hra : w.heap.size = ra at XA ⊢
  have HRA := hide hra
  clear hra
  go_wp2_with fail
  refine (HRD.out _).mono ?_
  rintro e w2 ⟨rfl, hr, hb⟩
  have HRQ := hide hr
  have XA2 := hide ((hb.block _ (heap_lt XA.out)).trans XA.out)
  have BL2 := hide (BL.out.trans (hb.mono BL.out.size))
  have HPN := hide (show ra < w1.heap.size ∧ w.heap.size ≤ w1.heap.size from ⟨heap_lt XA.out, BL.out.size⟩)
  clear hr hb HRD XA BL
  generalize w1.heap.size = p at *
  go_wp2_with fail
  refine (HN1.out _ _ HRQ.out).mono ?_
  rintro e w3 ⟨rfl, hr, ho⟩
  have hp1 : ra ≠ p := by have := HPN.out; omega
  have hal := (Below.refl w3.heap.size w3).alloc (Nat.le_refl _) (.cells #[.int .u8 12, .int .u8 0, .int .u64 0, .int .i64 0, .int .i64 0, .int .i64 0, .int .u8 0, .string ⟨#[]⟩, .slice none 0 0, .int .i64 0] 39)
  have D0 := hide (show DcF w (w3.alloc (.cells #[.int .u8 12, .int .u8 0, .int .u64 0, .int .i64 0, .int .i64 0, .int .i64 0, .int .u8 0, .string ⟨#[]⟩, .slice none 0 0, .int .i64 0] 39)) p w3.heap.size ra true (l.drop 1) #[.int .u8 12, .int .u8 0, .int .u64 0, .int .i64 0, .int .i64 0, .int .i64 0, .int .u8 0, .string ⟨#[]⟩, .slice none 0 0, .int .i64 0] from by
    have b3 := ho.below BL2.out HPN.out.2 BL2.out.size
    have x3 := (ho.block _ (heap_lt XA2.out) hp1).trans XA2.out
    have l3 := heap_lt x3
    have p3 := hr.lt
    exact ⟨hr.below hal, heap_new _ _, (hal.block _ l3).trans x3, b3.alloc b3.size _, b3.size, by rw [HRA.out]; exact Nat.le_refl _, HPN.out.2, by omega, by omega, hp1⟩)
  clear hal hr ho XA2 BL2 HRQ HN1
  go_upto_region 3 with (fail)
  generalize w3.alloc (.cells #[.int .u8 12, .int .u8 0, .int .u64 0, .int .i64 0, .int .i64 0, .int .i64 0, .int .u8 0, .string ⟨#[]⟩, .slice none 0 0, .int .i64 0] 39) = w4 at *
  generalize w3.heap.size = rb at *
  have e0 : w4.cell? ⟨rb, 0, none⟩ = some (.int .u8 12) := cell_of_block D0.out.box 0
  go_wp2_with fail
  refine (HEV.out _).mono ?_
  rintro e w5 ⟨rfl, rfl⟩
  go_wp2_with fail
  refine (HC2.out _ _ D0.out.rq).mono ?_
  rintro e w6 ⟨rfl, hr, ho⟩
  have D1 := hide (D0.out.step hr ho)
  clear hr ho e0 D0
  obtain ⟨⟨e0, e1, e2, e3, e4, e5, e6, e7, e8, e9⟩, ⟨z0, z1, z2, z3, z4, z5, z6, z7, z8, z9⟩⟩ := row10_facts D1.out.box
  have E1 := hide (show DcF w (w6.setCell ⟨rb, 9, none⟩ (.int .i64 (n2 : Int))) p rb ra o2 (l.drop (1 + 4)) #[.int .u8 12, .int .u8 0, .int .u64 0, .int .i64 0, .int .i64 0, .int .i64 0, .int .u8 0, .string ⟨#[]⟩, .slice none 0 0, .int .i64 (n2 : Int)] from D1.out.store 9 (.int .i64 (n2 : Int)))
  go_upto_region 12 with (fail)
  clear e0 e1 e2 e3 e4 e5 e6 e7 e8 e9 z0 z1 z2 z3 z4 z5 z6 z7 z8 z9 D1
  generalize w6.setCell ⟨rb, 9, none⟩ (.int .i64 (n2 : Int)) = u at *
  have e0 := cell_of_block E1.out.box 0
  have HEN := hide (rq_end p o2 (l.drop (1 + 4)) u E1.out.rq)
  by_cases hd : decO l = true
  · have HD := hide hd
    rw [show endZ o2 (l.drop (1 + 4)) = 0 from if_pos (HIFF.out.2 hd)] at HEN
    clear hd
    go_wp2_with fail
    refine HEN.out.mono ?_
    rintro e w7 ⟨rfl, rfl⟩
    go_wp2_with fail
    refine (HRT.out _).mono ?_
    rintro e w7 ⟨rfl, rfl⟩
    clear e0
    obtain ⟨⟨e0, e1, e2, e3, e4, e5, e6, e7, e8, e9⟩, -⟩ := row10_facts E1.out.box
    obtain ⟨-, ⟨z0, z1, z2, z3, z4, z5, z6, z7, z8, z9⟩⟩ := row10_facts E1.out.res
    obtain ⟨⟨g0, g1, g2, g3, g4, g5, g6, g7, g8, g9⟩, -⟩ := row10_facts E1.out.res
    have hne : ¬ rb = ra := E1.out.new.2.2.2.1
    have hne2 : ¬ ra = rb := fun h => hne h.symm
    go_wp2_with fail
    (try simp only [Exit.inBlock, Exit.then])
    refine bodyPost_ret (res_cell2 (P := Try.prog) rfl _ _ ra 39 #[.int .u8 12, .int .u8 0, .int .u64 0, .int .i64 0, .int .i64 0, .int .i64 0, .int .u8 0, .string ⟨#[]⟩, .slice none 0 0, .int .i64 (n2 : Int)] (0, 0) _ rfl (row10_set E1.out.res) Try.underlying39 rfl (by kernel_rfl)) rfl ?_
    obtain ⟨y1, y2⟩ := dec_yes HD.out
    rw [HXE.out HD.out] at y2
    refine ⟨none, 0, by rw [y1, y2]; rfl, by rw [y2]; exact fun i hi => absurd hi (Nat.not_lt_zero i), E1.out.done (.int .u8 12) (.int .u8 0) (.int .u64 0) (.int .i64 0) (.int .i64 0) (.int .i64 0) (.int .u8 0) (.string ⟨#[]⟩) (.slice none 0 0) (.int .i64 (n2 : Int))⟩
  · have HDN := hide hd
    rw [show endZ o2 (l.drop (1 + 4)) = 4 from if_neg (fun h => hd (HIFF.out.1 h))] at HEN
    clear hd
    go_wp2_with fail
    refine HEN.out.mono ?_
    rintro e w7 ⟨rfl, rfl⟩
    clear e0
    obtain ⟨⟨e0, e1, e2, e3, e4, e5, e6, e7, e8, e9⟩, -⟩ := row10_facts E1.out.box
    obtain ⟨-, ⟨z0, z1, z2, z3, z4, z5, z6, z7, z8, z9⟩⟩ := row10_facts E1.out.res
    obtain ⟨⟨g0, g1, g2, g3, g4, g5, g6, g7, g8, g9⟩, -⟩ := row10_facts E1.out.res
    have hne : ¬ rb = ra := E1.out.new.2.2.2.1
    have hne2 : ¬ ra = rb := fun h => hne h.symm
    go_wp2_with fail
    (try simp only [Exit.inBlock, Exit.then])
    refine bodyPost_ret (res_cell2 (P := Try.prog) rfl _ _ ra 39 #[.int .u8 0, .int .u8 0, .int .u64 0, .int .i64 0, .int .i64 0, .int .i64 0, .int .u8 0, .string ⟨#[]⟩, .slice none 0 0, .int .i64 0] (0, 0) _ rfl (row10_set E1.out.res) Try.underlying39 rfl (by kernel_rfl)) rfl ?_
    obtain ⟨y1, y2⟩ := dec_no HDN.out
    refine ⟨none, 0, by rw [y1, y2]; rfl, by rw [y2]; exact fun i hi => absurd hi (Nat.not_lt_zero i), E1.out.done (.int .u8 0) (.int .u8 0) (.int .u64 0) (.int .i64 0) (.int .i64 0) (.int .i64 0) (.int .u8 0) (.string ⟨#[]⟩) (.slice none 0 0) (.int .i64 0)⟩
set_option maxRecDepth 100000 in
set_option maxHeartbeats 1000000 in
theorem dec_thirteen (l : List UInt8) (hl : l.length ≤ 1000000) (hk : kd l = 13) (w : World) : Calls Try.prog 10 #[.string (bs l)] w (DecIs l w) := by
  have HRD := hide (fun W => rq_new l hl W)
  have HN1 := hide (fun p W hw => rq_number p true l 1 (by decide) (by decide) W hw)
  unfold RNIs at HN1
  rw [vN_kd, hk] at HN1
  obtain ⟨o1, ho1⟩ : ∃ o, (true && decide (1 ≤ l.length)) = o := ⟨_, rfl⟩
  rw [ho1] at HN1
  have HO1 := hide ho1
  clear ho1
  have hkl := kd_lt l
  have HK := hide hk
  have HRT := hide (fun W => right_any 13 W)
  have HEV := hide (fun W => event_any 13 W)
  clear hk hkl
  rw [show evB 13 = false from rfl] at HEV
  rw [show rtB 13 = true from rfl] at HRT
  have hln : 1 ≤ l.length := by
    cases l with
    | nil => have := HK.out; unfold kd at this; simp at this
    | cons b l => simp
  have q1 : o1 = true := by rw [← HO1.out]; simp; omega
  subst q1
  have HIFF := hide (show (l.drop 1 = []) ↔ decO l = true from by
    unfold decO
    rw [lenOf_0 (by have := HK.out; omega), decide_eq_true_eq, HK.out]
    constructor
    · intro h3
      have h4 := congrArg List.length h3
      rw [List.length_drop] at h4
      simp only [List.length_nil] at h4
      exact ⟨by omega, by decide, by decide, by omega, fun h => absurd h (by decide)⟩
    · rintro ⟨-, -, -, h4, -⟩
      exact List.drop_of_length_le (by omega))
  clear hln
  go_enter Try.func10, Try.ntmps10
  have hal := (Below.refl w.heap.size w).alloc (Nat.le_refl _) (.cells #[.int .u8 0, .int .u8 0, .int .u64 0, .int .i64 0, .int .i64 0, .int .i64 0, .int .u8 0, .string ⟨#[]⟩, .slice none 0 0, .int .i64 0] 39)
  have XA := hide (heap_new w (.cells #[.int .u8 0, .int .u8 0, .int .u64 0, .int .i64 0, .int .i64 0, .int .i64 0, .int .u8 0, .string ⟨#[]⟩, .slice none 0 0, .int .i64 0] 39))
  have BL := hide hal
  clear hal
  go_upto_region 1 with (fail)
  generalize w.alloc (.cells #[.int .u8 0, .int .u8 0, .int .u64 0, .int .i64 0, .int .i64 0, .int .i64 0, .int .u8 0, .string ⟨#[]⟩, .slice none 0 0, .int .i64 0] 39) = w1 at *
  generalize hra : w.heap.size = ra at XA ⊢
  have HRA := hide hra
  clear hra
  go_wp2_with fail
  refine (HRD.out _).mono ?_
  rintro e w2 ⟨rfl, hr, hb⟩
  have HRQ := hide hr
  have XA2 := hide ((hb.block _ (heap_lt XA.out)).trans XA.out)
  have BL2 := hide (BL.out.trans (hb.mono BL.out.size))
  have HPN := hide (show ra < w1.heap.size ∧ w.heap.size ≤ w1.heap.size from ⟨heap_lt XA.out, BL.out.size⟩)
  clear hr hb HRD XA BL
  generalize w1.heap.size = p at *
  go_wp2_with fail
  refine (HN1.out _ _ HRQ.out).mono ?_
  rintro e w3 ⟨rfl, hr, ho⟩
  have hp1 : ra ≠ p := by have := HPN.out; omega
  have hal := (Below.refl w3.heap.size w3).alloc (Nat.le_refl _) (.cells #[.int .u8 13, .int .u8 0, .int .u64 0, .int .i64 0, .int .i64 0, .int .i64 0, .int .u8 0, .string ⟨#[]⟩, .slice none 0 0, .int .i64 0] 39)
  have D0 := hide (show DcF w (w3.alloc (.cells #[.int .u8 13, .int .u8 0, .int .u64 0, .int .i64 0, .int .i64 0, .int .i64 0, .int .u8 0, .string ⟨#[]⟩, .slice none 0 0, .int .i64 0] 39)) p w3.heap.size ra true (l.drop 1) #[.int .u8 13, .int .u8 0, .int .u64 0, .int .i64 0, .int .i64 0, .int .i64 0, .int .u8 0, .string ⟨#[]⟩, .slice none 0 0, .int .i64 0] from by
    have b3 := ho.below BL2.out HPN.out.2 BL2.out.size
    have x3 := (ho.block _ (heap_lt XA2.out) hp1).trans XA2.out
    have l3 := heap_lt x3
    have p3 := hr.lt
    exact ⟨hr.below hal, heap_new _ _, (hal.block _ l3).trans x3, b3.alloc b3.size _, b3.size, by rw [HRA.out]; exact Nat.le_refl _, HPN.out.2, by omega, by omega, hp1⟩)
  clear hal hr ho XA2 BL2 HRQ HN1
  go_upto_region 3 with (fail)
  generalize w3.alloc (.cells #[.int .u8 13, .int .u8 0, .int .u64 0, .int .i64 0, .int .i64 0, .int .i64 0, .int .u8 0, .string ⟨#[]⟩, .slice none 0 0, .int .i64 0] 39) = w4 at *
  generalize w3.heap.size = rb at *
  have e0 : w4.cell? ⟨rb, 0, none⟩ = some (.int .u8 13) := cell_of_block D0.out.box 0
  go_wp2_with fail
  refine (HEV.out _).mono ?_
  rintro e w5 ⟨rfl, rfl⟩
  have HEN := hide (rq_end p true (l.drop 1) w4 D0.out.rq)
  by_cases hd : decO l = true
  · have HD := hide hd
    rw [show endZ true (l.drop 1) = 0 from if_pos ⟨rfl, HIFF.out.2 hd⟩] at HEN
    clear hd
    go_wp2_with fail
    refine HEN.out.mono ?_
    rintro e w7 ⟨rfl, rfl⟩
    go_wp2_with fail
    refine (HRT.out _).mono ?_
    rintro e w7 ⟨rfl, rfl⟩
    clear e0
    obtain ⟨⟨e0, e1, e2, e3, e4, e5, e6, e7, e8, e9⟩, -⟩ := row10_facts D0.out.box
    obtain ⟨-, ⟨z0, z1, z2, z3, z4, z5, z6, z7, z8, z9⟩⟩ := row10_facts D0.out.res
    obtain ⟨⟨g0, g1, g2, g3, g4, g5, g6, g7, g8, g9⟩, -⟩ := row10_facts D0.out.res
    have hne : ¬ rb = ra := D0.out.new.2.2.2.1
    have hne2 : ¬ ra = rb := fun h => hne h.symm
    go_wp2_with fail
    (try simp only [Exit.inBlock, Exit.then])
    refine bodyPost_ret (res_cell2 (P := Try.prog) rfl _ _ ra 39 #[.int .u8 13, .int .u8 0, .int .u64 0, .int .i64 0, .int .i64 0, .int .i64 0, .int .u8 0, .string ⟨#[]⟩, .slice none 0 0, .int .i64 0] (0, 0) _ rfl (row10_set D0.out.res) Try.underlying39 rfl (by kernel_rfl)) rfl ?_
    obtain ⟨y1, y2⟩ := dec_yes HD.out
    rw [decR_13 HK.out] at y2
    refine ⟨none, 0, by rw [y1, y2]; rfl, by rw [y2]; exact fun i hi => absurd hi (Nat.not_lt_zero i), D0.out.done (.int .u8 13) (.int .u8 0) (.int .u64 0) (.int .i64 0) (.int .i64 0) (.int .i64 0) (.int .u8 0) (.string ⟨#[]⟩) (.slice none 0 0) (.int .i64 0)⟩
  · have HDN := hide hd
    rw [show endZ true (l.drop 1) = 4 from if_neg (fun h => hd (HIFF.out.1 h.2))] at HEN
    clear hd
    go_wp2_with fail
    refine HEN.out.mono ?_
    rintro e w7 ⟨rfl, rfl⟩
    clear e0
    obtain ⟨⟨e0, e1, e2, e3, e4, e5, e6, e7, e8, e9⟩, -⟩ := row10_facts D0.out.box
    obtain ⟨-, ⟨z0, z1, z2, z3, z4, z5, z6, z7, z8, z9⟩⟩ := row10_facts D0.out.res
    obtain ⟨⟨g0, g1, g2, g3, g4, g5, g6, g7, g8, g9⟩, -⟩ := row10_facts D0.out.res
    have hne : ¬ rb = ra := D0.out.new.2.2.2.1
    have hne2 : ¬ ra = rb := fun h => hne h.symm
    go_wp2_with fail
    (try simp only [Exit.inBlock, Exit.then])
    refine bodyPost_ret (res_cell2 (P := Try.prog) rfl _ _ ra 39 #[.int .u8 0, .int .u8 0, .int .u64 0, .int .i64 0, .int .i64 0, .int .i64 0, .int .u8 0, .string ⟨#[]⟩, .slice none 0 0, .int .i64 0] (0, 0) _ rfl (row10_set D0.out.res) Try.underlying39 rfl (by kernel_rfl)) rfl ?_
    obtain ⟨y1, y2⟩ := dec_no HDN.out
    refine ⟨none, 0, by rw [y1, y2]; rfl, by rw [y2]; exact fun i hi => absurd hi (Nat.not_lt_zero i), D0.out.done (.int .u8 0) (.int .u8 0) (.int .u64 0) (.int .i64 0) (.int .i64 0) (.int .i64 0) (.int .u8 0) (.string ⟨#[]⟩) (.slice none 0 0) (.int .i64 0)⟩
set_option maxRecDepth 100000 in
set_option maxHeartbeats 1000000 in
theorem dec_fourteen (l : List UInt8) (hl : l.length ≤ 1000000) (hk : kd l = 14) (w : World) : Calls Try.prog 10 #[.string (bs l)] w (DecIs l w) := by
  have HRD := hide (fun W => rq_new l hl W)
  have HN1 := hide (fun p W hw => rq_number p true l 1 (by decide) (by decide) W hw)
  unfold RNIs at HN1
  rw [vN_kd, hk] at HN1
  obtain ⟨o1, ho1⟩ : ∃ o, (true && decide (1 ≤ l.length)) = o := ⟨_, rfl⟩
  rw [ho1] at HN1
  have HO1 := hide ho1
  clear ho1
  have hkl := kd_lt l
  have HK := hide hk
  have HRT := hide (fun W => right_any 14 W)
  have HEV := hide (fun W => event_any 14 W)
  clear hk hkl
  rw [show evB 14 = false from rfl] at HEV
  rw [show rtB 14 = true from rfl] at HRT
  have hln : 1 ≤ l.length := by
    cases l with
    | nil => have := HK.out; unfold kd at this; simp at this
    | cons b l => simp
  have q1 : o1 = true := by rw [← HO1.out]; simp; omega
  subst q1
  have HIFF := hide (show (l.drop 1 = []) ↔ decO l = true from by
    unfold decO
    rw [lenOf_0 (by have := HK.out; omega), decide_eq_true_eq, HK.out]
    constructor
    · intro h3
      have h4 := congrArg List.length h3
      rw [List.length_drop] at h4
      simp only [List.length_nil] at h4
      exact ⟨by omega, by decide, by decide, by omega, fun h => absurd h (by decide)⟩
    · rintro ⟨-, -, -, h4, -⟩
      exact List.drop_of_length_le (by omega))
  clear hln
  go_enter Try.func10, Try.ntmps10
  have hal := (Below.refl w.heap.size w).alloc (Nat.le_refl _) (.cells #[.int .u8 0, .int .u8 0, .int .u64 0, .int .i64 0, .int .i64 0, .int .i64 0, .int .u8 0, .string ⟨#[]⟩, .slice none 0 0, .int .i64 0] 39)
  have XA := hide (heap_new w (.cells #[.int .u8 0, .int .u8 0, .int .u64 0, .int .i64 0, .int .i64 0, .int .i64 0, .int .u8 0, .string ⟨#[]⟩, .slice none 0 0, .int .i64 0] 39))
  have BL := hide hal
  clear hal
  go_upto_region 1 with (fail)
  generalize w.alloc (.cells #[.int .u8 0, .int .u8 0, .int .u64 0, .int .i64 0, .int .i64 0, .int .i64 0, .int .u8 0, .string ⟨#[]⟩, .slice none 0 0, .int .i64 0] 39) = w1 at *
  generalize hra : w.heap.size = ra at XA ⊢
  have HRA := hide hra
  clear hra
  go_wp2_with fail
  refine (HRD.out _).mono ?_
  rintro e w2 ⟨rfl, hr, hb⟩
  have HRQ := hide hr
  have XA2 := hide ((hb.block _ (heap_lt XA.out)).trans XA.out)
  have BL2 := hide (BL.out.trans (hb.mono BL.out.size))
  have HPN := hide (show ra < w1.heap.size ∧ w.heap.size ≤ w1.heap.size from ⟨heap_lt XA.out, BL.out.size⟩)
  clear hr hb HRD XA BL
  generalize w1.heap.size = p at *
  go_wp2_with fail
  refine (HN1.out _ _ HRQ.out).mono ?_
  rintro e w3 ⟨rfl, hr, ho⟩
  have hp1 : ra ≠ p := by have := HPN.out; omega
  have hal := (Below.refl w3.heap.size w3).alloc (Nat.le_refl _) (.cells #[.int .u8 14, .int .u8 0, .int .u64 0, .int .i64 0, .int .i64 0, .int .i64 0, .int .u8 0, .string ⟨#[]⟩, .slice none 0 0, .int .i64 0] 39)
  have D0 := hide (show DcF w (w3.alloc (.cells #[.int .u8 14, .int .u8 0, .int .u64 0, .int .i64 0, .int .i64 0, .int .i64 0, .int .u8 0, .string ⟨#[]⟩, .slice none 0 0, .int .i64 0] 39)) p w3.heap.size ra true (l.drop 1) #[.int .u8 14, .int .u8 0, .int .u64 0, .int .i64 0, .int .i64 0, .int .i64 0, .int .u8 0, .string ⟨#[]⟩, .slice none 0 0, .int .i64 0] from by
    have b3 := ho.below BL2.out HPN.out.2 BL2.out.size
    have x3 := (ho.block _ (heap_lt XA2.out) hp1).trans XA2.out
    have l3 := heap_lt x3
    have p3 := hr.lt
    exact ⟨hr.below hal, heap_new _ _, (hal.block _ l3).trans x3, b3.alloc b3.size _, b3.size, by rw [HRA.out]; exact Nat.le_refl _, HPN.out.2, by omega, by omega, hp1⟩)
  clear hal hr ho XA2 BL2 HRQ HN1
  go_upto_region 3 with (fail)
  generalize w3.alloc (.cells #[.int .u8 14, .int .u8 0, .int .u64 0, .int .i64 0, .int .i64 0, .int .i64 0, .int .u8 0, .string ⟨#[]⟩, .slice none 0 0, .int .i64 0] 39) = w4 at *
  generalize w3.heap.size = rb at *
  have e0 : w4.cell? ⟨rb, 0, none⟩ = some (.int .u8 14) := cell_of_block D0.out.box 0
  go_wp2_with fail
  refine (HEV.out _).mono ?_
  rintro e w5 ⟨rfl, rfl⟩
  have HEN := hide (rq_end p true (l.drop 1) w4 D0.out.rq)
  by_cases hd : decO l = true
  · have HD := hide hd
    rw [show endZ true (l.drop 1) = 0 from if_pos ⟨rfl, HIFF.out.2 hd⟩] at HEN
    clear hd
    go_wp2_with fail
    refine HEN.out.mono ?_
    rintro e w7 ⟨rfl, rfl⟩
    go_wp2_with fail
    refine (HRT.out _).mono ?_
    rintro e w7 ⟨rfl, rfl⟩
    clear e0
    obtain ⟨⟨e0, e1, e2, e3, e4, e5, e6, e7, e8, e9⟩, -⟩ := row10_facts D0.out.box
    obtain ⟨-, ⟨z0, z1, z2, z3, z4, z5, z6, z7, z8, z9⟩⟩ := row10_facts D0.out.res
    obtain ⟨⟨g0, g1, g2, g3, g4, g5, g6, g7, g8, g9⟩, -⟩ := row10_facts D0.out.res
    have hne : ¬ rb = ra := D0.out.new.2.2.2.1
    have hne2 : ¬ ra = rb := fun h => hne h.symm
    go_wp2_with fail
    (try simp only [Exit.inBlock, Exit.then])
    refine bodyPost_ret (res_cell2 (P := Try.prog) rfl _ _ ra 39 #[.int .u8 14, .int .u8 0, .int .u64 0, .int .i64 0, .int .i64 0, .int .i64 0, .int .u8 0, .string ⟨#[]⟩, .slice none 0 0, .int .i64 0] (0, 0) _ rfl (row10_set D0.out.res) Try.underlying39 rfl (by kernel_rfl)) rfl ?_
    obtain ⟨y1, y2⟩ := dec_yes HD.out
    rw [decR_14 HK.out] at y2
    refine ⟨none, 0, by rw [y1, y2]; rfl, by rw [y2]; exact fun i hi => absurd hi (Nat.not_lt_zero i), D0.out.done (.int .u8 14) (.int .u8 0) (.int .u64 0) (.int .i64 0) (.int .i64 0) (.int .i64 0) (.int .u8 0) (.string ⟨#[]⟩) (.slice none 0 0) (.int .i64 0)⟩
  · have HDN := hide hd
    rw [show endZ true (l.drop 1) = 4 from if_neg (fun h => hd (HIFF.out.1 h.2))] at HEN
    clear hd
    go_wp2_with fail
    refine HEN.out.mono ?_
    rintro e w7 ⟨rfl, rfl⟩
    clear e0
    obtain ⟨⟨e0, e1, e2, e3, e4, e5, e6, e7, e8, e9⟩, -⟩ := row10_facts D0.out.box
    obtain ⟨-, ⟨z0, z1, z2, z3, z4, z5, z6, z7, z8, z9⟩⟩ := row10_facts D0.out.res
    obtain ⟨⟨g0, g1, g2, g3, g4, g5, g6, g7, g8, g9⟩, -⟩ := row10_facts D0.out.res
    have hne : ¬ rb = ra := D0.out.new.2.2.2.1
    have hne2 : ¬ ra = rb := fun h => hne h.symm
    go_wp2_with fail
    (try simp only [Exit.inBlock, Exit.then])
    refine bodyPost_ret (res_cell2 (P := Try.prog) rfl _ _ ra 39 #[.int .u8 0, .int .u8 0, .int .u64 0, .int .i64 0, .int .i64 0, .int .i64 0, .int .u8 0, .string ⟨#[]⟩, .slice none 0 0, .int .i64 0] (0, 0) _ rfl (row10_set D0.out.res) Try.underlying39 rfl (by kernel_rfl)) rfl ?_
    obtain ⟨y1, y2⟩ := dec_no HDN.out
    refine ⟨none, 0, by rw [y1, y2]; rfl, by rw [y2]; exact fun i hi => absurd hi (Nat.not_lt_zero i), D0.out.done (.int .u8 0) (.int .u8 0) (.int .u64 0) (.int .i64 0) (.int .i64 0) (.int .i64 0) (.int .u8 0) (.string ⟨#[]⟩) (.slice none 0 0) (.int .i64 0)⟩
theorem dec_any (l : List UInt8) (hl : l.length ≤ 1000000) (w : World) : Calls Try.prog 10 #[.string (bs l)] w (DecIs l w) := by
  have hc : (kd l < 1 ∨ 14 < kd l) ∨ (1 ≤ kd l ∧ kd l ≤ 9) ∨ kd l = 10 ∨ kd l = 11 ∨ kd l = 12 ∨ kd l = 13 ∨ kd l = 14 := by omega
  rcases hc with h | h | h | h | h | h | h
  · exact dec_none l hl _ rfl h w
  · exact dec_event l hl _ rfl h w
  · exact dec_ten l hl h w
  · exact dec_eleven l hl h w
  · exact dec_twelve l hl h w
  · exact dec_thirteen l hl h w
  · exact dec_fourteen l hl h w
end Go.Proofs.Ytkbikflincjhhaa
