/-
  Layer 6, the document's answer: Parse, by contracts.
-/
import Derived.Test.YtoigejgpagoghaaRTag
namespace Go.Proofs.Ytoigejgpagoghaa
set_option linter.unusedSimpArgs false
set_option linter.unusedVariables false
open Go.RowKit Go.WideShapes Go.ChangeShapes Go.ChangeAt

/-- while fields are read: the result's cells, the one that is told where there is none, the tag's -/
structure RP (w0 W : World) (A : Nat) (T : Array Value) : Prop where
  res : W.heap[A]? = some (.cells (tagC 0 0 0 0 0) 41 (0, 0))
  no : W.heap[A + 1]? = some (.cells (tagC 0 0 0 0 0) 41 (0, 0))
  tag : W.heap[A + 2]? = some (.cells T 41 (0, 0))
  wa : w0.heap.size ≤ A
  below : Below w0.heap.size w0 W
theorem RP.kept {w0 W W' : World} {A : Nat} {T : Array Value} (h : RP w0 W A T) (hb : Below W.heap.size W W') : RP w0 W' A T :=
  ⟨(hb.block _ (heap_lt h.res)).trans h.res, (hb.block _ (heap_lt h.no)).trans h.no, (hb.block _ (heap_lt h.tag)).trans h.tag, h.wa, below_trans h.below hb⟩
theorem RP.store {w0 W : World} {A : Nat} {T : Array Value} (h : RP w0 W A T) (j : Nat) (v : Value) : RP w0 (W.setCell ⟨A + 2, j, none⟩ v) A (T.setIfInBounds j v) :=
  ⟨by rw [block_setCell_other (by omega)]; exact h.res, by rw [block_setCell_other (by omega)]; exact h.no, block_setCell h.tag j v, h.wa, h.below.setCell (show w0.heap.size ≤ A + 2 by have := h.wa; omega) _⟩
theorem RP.drewN {w0 W : World} {A : Nat} {T : Array Value} (h : RP w0 W A T) (n : Nat) : RP w0 (W.drewN n) A T := ⟨h.res, h.no, h.tag, h.wa, ⟨h.below.os, h.below.tape, h.below.output, h.below.size, h.below.block⟩⟩
theorem RP.new (w : World) (T : Array Value) : RP w (((w.alloc (.cells (tagC 0 0 0 0 0) 41)).alloc (.cells (tagC 0 0 0 0 0) 41)).alloc (.cells T 41)).drew w.heap.size T := by
  have h1 : ((w.alloc (.cells (tagC 0 0 0 0 0) 41)).alloc (.cells (tagC 0 0 0 0 0) 41)).heap.size = w.heap.size + 2 := by rw [heap_alloc_sz, heap_alloc_sz]
  refine ⟨?_, ?_, ?_, Nat.le_refl _, ((below2 _ _ _).alloc (by omega) _).drew⟩
  · exact (heap_old _ _ _ (by omega)).trans (two_old w)
  · exact (heap_old _ _ _ (by omega)).trans (new2 w _ _)
  · have := heap_new ((w.alloc (.cells (tagC 0 0 0 0 0) 41)).alloc (.cells (tagC 0 0 0 0 0) 41)) (.cells T 41)
    rw [h1] at this
    exact this
set_option maxRecDepth 100000 in
set_option maxHeartbeats 1000000 in
theorem rparse_form (d l : List UInt8) (hl : l.length = 32) (hd : d.length ≤ 1000000) (h : ¬ TagOk (fld l 1 1) (fld l 2 2) (fld l 12 1) (fld l 13 1)) (w : World) :
    Calls Try.prog 15 #[.string (bs d), .string (bs l)] w fun e w' => e = .returned (.tuple #[.agg (tagC 0 0 0 0 0), .int .i64 4]) ∧ Below w.heap.size w w' := by
  have hs := bs_size l
  rw [hl] at hs
  have i1 := index_at l 1 (by omega)
  have i12 := index_at l 12 (by omega)
  have i13 := index_at l 13 (by omega)
  rw [← fld_one l _ (by omega)] at i1 i12 i13
  have e1 : (bs l).extract 2 4 = bs ((l.drop 2).take 2) := bs_extract l 2 4
  have e2 : (bs l).extract 4 12 = bs ((l.drop 4).take 8) := bs_extract l 4 12
  have e3 : (bs l).extract 0 28 = bs (l.take 28) := bs_to l 28
  have HG1 := hide (fun W => rget_any (bs ((l.drop 2).take 2)) (by rw [bs_size, List.length_take]; omega) W)
  have HG2 := hide (fun W => rget_any (bs ((l.drop 4).take 8)) (by rw [bs_size, List.length_take]; omega) W)
  rw [bs_toList, last8_short (by rw [List.length_take]; omega)] at HG1 HG2
  change Hid (∀ W, Calls Try.prog 25 #[.string (bs ((l.drop 2).take 2))] W fun e w' => e = .returned (.int .u64 (fld l 2 2 : Int)) ∧ W = w') at HG1
  change Hid (∀ W, Calls Try.prog 25 #[.string (bs ((l.drop 4).take 8))] W fun e w' => e = .returned (.int .u64 (fld l 4 8 : Int)) ∧ W = w') at HG2
  have b1 := fld_lt l 1 1
  have b2 := fld_lt l 2 2
  have b3 := fld_lt l 4 8
  have b4 := fld_lt l 12 1
  have b5 := fld_lt l 13 1
  simp only [Nat.reducePow] at b1 b2 b3 b4 b5
  have HF := hide (fun W => rframe_arg _ _ (fld l 4 8 : Int) _ _ h (bs d) W)
  generalize fld l 1 1 = f1 at *
  generalize fld l 2 2 = f2 at *
  generalize fld l 4 8 = f3 at *
  generalize fld l 12 1 = f4 at *
  generalize fld l 13 1 = f5 at *
  go_enter Try.func15, Try.ntmps15
  go_wp2_with fail
  go_region
  have HX := hide (RP.new w (tagC f1 0 0 f4 f5))
  go_wp2_with fail
  rw [show bs (List.take 2 (List.drop 2 l)) = bs ((l.drop 2).take 2) from rfl] at *
  refine (HG1.out _).mono ?_
  rintro e w1 ⟨rfl, hw1⟩
  have HX1 := hide (show RP w w1 w.heap.size (tagC f1 0 0 f4 f5) from hw1 ▸ HX.out)
  clear hw1 HX HG1 e1
  obtain ⟨⟨d0, d1, d2, d3, d4⟩, dz, dl⟩ := tagC_cells HX1.out.tag
  have HX2 := hide (show RP w (w1.setCell ⟨w.heap.size + 2, 1, none⟩ (.int .i64 f2)) w.heap.size (tagC f1 f2 0 f4 f5) from HX1.out.store 1 (.int .i64 f2))
  go_wp2_with fail
  generalize w1.setCell ⟨w.heap.size + 2, 1, none⟩ (.int .i64 f2) = w2 at *
  clear d0 d1 d2 d3 d4 dz dl HX1
  refine (HG2.out _).mono ?_
  rintro e w3 ⟨rfl, rfl⟩
  obtain ⟨⟨d0, d1, d2, d3, d4⟩, dz, dl⟩ := tagC_cells HX2.out.tag
  have HX3 := hide (show RP w (w2.setCell ⟨w.heap.size + 2, 2, none⟩ (.int .u64 f3)) w.heap.size (tagC f1 f2 f3 f4 f5) from HX2.out.store 2 (.int .u64 f3))
  go_wp2_with fail
  generalize w2.setCell ⟨w.heap.size + 2, 2, none⟩ (.int .u64 f3) = w4 at *
  clear d0 d1 d2 d3 d4 dz dl HX2 HG2 e2
  refine (HF.out _).mono ?_
  rintro e w5 ⟨rfl, hb⟩
  have HX5 := hide (HX3.out.kept hb)
  clear hb HX3 HF
  obtain ⟨⟨d0, d1, d2, d3, d4⟩, dz, dl⟩ := tagC_cells HX5.out.no
  obtain ⟨⟨g0, g1, g2, g3, g4⟩, gz, gl⟩ := tagC_cells HX5.out.res
  go_upto_region 8 with (fail)
  go_quiet (fail)
  go_wp2_with fail
  exact bodyPost_ret (res_rtag2 Try.results15 _ _ w.heap.size 0 0 0 0 0 _ rfl rfl (five_set (HX5.out.drewN nq).res)) rfl ⟨rfl, below5 (HX5.out.drewN nq).below _ HX5.out.wa _ _ _ _ _⟩
set_option maxRecDepth 100000 in
set_option maxHeartbeats 1000000 in
theorem rparse_head (d l : List UInt8) (hl : l.length = 32) (hd : d.length ≤ 1000000) (h : TagOk (fld l 1 1) (fld l 2 2) (fld l 12 1) (fld l 13 1)) (hh : headZ (fld l 1 1) (fld l 2 2) (fld l 4 8) (fld l 12 1) (fld l 13 1) ≠ l.take 28) (w : World) :
    Calls Try.prog 15 #[.string (bs d), .string (bs l)] w fun e w' => e = .returned (.tuple #[.agg (tagC 0 0 0 0 0), .int .i64 4]) ∧ Below w.heap.size w w' := by
  have hs := bs_size l
  rw [hl] at hs
  have i1 := index_at l 1 (by omega)
  have i12 := index_at l 12 (by omega)
  have i13 := index_at l 13 (by omega)
  rw [← fld_one l _ (by omega)] at i1 i12 i13
  have e1 : (bs l).extract 2 4 = bs ((l.drop 2).take 2) := bs_extract l 2 4
  have e2 : (bs l).extract 4 12 = bs ((l.drop 4).take 8) := bs_extract l 4 12
  have e3 : (bs l).extract 0 28 = bs (l.take 28) := bs_to l 28
  have HG1 := hide (fun W => rget_any (bs ((l.drop 2).take 2)) (by rw [bs_size, List.length_take]; omega) W)
  have HG2 := hide (fun W => rget_any (bs ((l.drop 4).take 8)) (by rw [bs_size, List.length_take]; omega) W)
  rw [bs_toList, last8_short (by rw [List.length_take]; omega)] at HG1 HG2
  change Hid (∀ W, Calls Try.prog 25 #[.string (bs ((l.drop 2).take 2))] W fun e w' => e = .returned (.int .u64 (fld l 2 2 : Int)) ∧ W = w') at HG1
  change Hid (∀ W, Calls Try.prog 25 #[.string (bs ((l.drop 4).take 8))] W fun e w' => e = .returned (.int .u64 (fld l 4 8 : Int)) ∧ W = w') at HG2
  have b1 := fld_lt l 1 1
  have b2 := fld_lt l 2 2
  have b3 := fld_lt l 4 8
  have b4 := fld_lt l 12 1
  have b5 := fld_lt l 13 1
  simp only [Nat.reducePow] at b1 b2 b3 b4 b5
  have HF := hide (fun W => rframe_ok _ _ (fld l 4 8 : Int) _ _ h (by omega) (by omega) d hd W)
  have hfl := frameL_length (fld l 1 1) (fld l 2 2) (fld l 4 8) (fld l 12 1) (fld l 13 1) d
  have hfs := bs_size (frameL (fld l 1 1) (fld l 2 2) (fld l 4 8) (fld l 12 1) (fld l 13 1) d)
  rw [hfl] at hfs
  have e4 : (bs (frameL (fld l 1 1) (fld l 2 2) (fld l 4 8) (fld l 12 1) (fld l 13 1) d)).extract 0 28 = bs (headZ (fld l 1 1) (fld l 2 2) (fld l 4 8) (fld l 12 1) (fld l 13 1)) := by rw [bs_to, (frame_take _ _ _ _ _ d).1]
  obtain ⟨hne, hne2⟩ := bs_ne hh
  generalize frameL (fld l 1 1) (fld l 2 2) (fld l 4 8) (fld l 12 1) (fld l 13 1) d = fr at *
  generalize headZ (fld l 1 1) (fld l 2 2) (fld l 4 8) (fld l 12 1) (fld l 13 1) = hz at *
  generalize fld l 1 1 = f1 at *
  generalize fld l 2 2 = f2 at *
  generalize fld l 4 8 = f3 at *
  generalize fld l 12 1 = f4 at *
  generalize fld l 13 1 = f5 at *
  go_enter Try.func15, Try.ntmps15
  go_wp2_with fail
  go_region
  have HX := hide (RP.new w (tagC f1 0 0 f4 f5))
  go_wp2_with fail
  rw [show bs (List.take 2 (List.drop 2 l)) = bs ((l.drop 2).take 2) from rfl] at *
  refine (HG1.out _).mono ?_
  rintro e w1 ⟨rfl, hw1⟩
  have HX1 := hide (show RP w w1 w.heap.size (tagC f1 0 0 f4 f5) from hw1 ▸ HX.out)
  clear hw1 HX HG1 e1
  obtain ⟨⟨d0, d1, d2, d3, d4⟩, dz, dl⟩ := tagC_cells HX1.out.tag
  have HX2 := hide (show RP w (w1.setCell ⟨w.heap.size + 2, 1, none⟩ (.int .i64 f2)) w.heap.size (tagC f1 f2 0 f4 f5) from HX1.out.store 1 (.int .i64 f2))
  go_wp2_with fail
  generalize w1.setCell ⟨w.heap.size + 2, 1, none⟩ (.int .i64 f2) = w2 at *
  clear d0 d1 d2 d3 d4 dz dl HX1
  refine (HG2.out _).mono ?_
  rintro e w3 ⟨rfl, rfl⟩
  obtain ⟨⟨d0, d1, d2, d3, d4⟩, dz, dl⟩ := tagC_cells HX2.out.tag
  have HX3 := hide (show RP w (w2.setCell ⟨w.heap.size + 2, 2, none⟩ (.int .u64 f3)) w.heap.size (tagC f1 f2 f3 f4 f5) from HX2.out.store 2 (.int .u64 f3))
  go_wp2_with fail
  generalize w2.setCell ⟨w.heap.size + 2, 2, none⟩ (.int .u64 f3) = w4 at *
  clear d0 d1 d2 d3 d4 dz dl HX2 HG2 e2
  refine (HF.out _).mono ?_
  rintro e w5 ⟨rfl, hb⟩
  have HX5 := hide (HX3.out.kept hb)
  clear hb HX3 HF
  obtain ⟨⟨d0, d1, d2, d3, d4⟩, dz, dl⟩ := tagC_cells HX5.out.no
  obtain ⟨⟨g0, g1, g2, g3, g4⟩, gz, gl⟩ := tagC_cells HX5.out.res
  go_upto_region 8 with (fail)
  go_quiet (fail)
  go_wp2_with fail
  exact bodyPost_ret (res_rtag2 Try.results15 _ _ w.heap.size 0 0 0 0 0 _ rfl rfl (five_set (HX5.out.drewN nq).res)) rfl ⟨rfl, below5 (HX5.out.drewN nq).below _ HX5.out.wa _ _ _ _ _⟩
set_option maxRecDepth 100000 in
set_option maxHeartbeats 1000000 in
theorem rparse_sum (d l : List UInt8) (hl : l.length = 32) (hd : d.length ≤ 1000000) (h : TagOk (fld l 1 1) (fld l 2 2) (fld l 12 1) (fld l 13 1)) (hh : headZ (fld l 1 1) (fld l 2 2) (fld l 4 8) (fld l 12 1) (fld l 13 1) = l.take 28) (hsum : frameL (fld l 1 1) (fld l 2 2) (fld l 4 8) (fld l 12 1) (fld l 13 1) d ≠ l) (w : World) :
    Calls Try.prog 15 #[.string (bs d), .string (bs l)] w fun e w' => e = .returned (.tuple #[.agg (tagC 0 0 0 0 0), .int .i64 5]) ∧ Below w.heap.size w w' := by
  have hs := bs_size l
  rw [hl] at hs
  have i1 := index_at l 1 (by omega)
  have i12 := index_at l 12 (by omega)
  have i13 := index_at l 13 (by omega)
  rw [← fld_one l _ (by omega)] at i1 i12 i13
  have e1 : (bs l).extract 2 4 = bs ((l.drop 2).take 2) := bs_extract l 2 4
  have e2 : (bs l).extract 4 12 = bs ((l.drop 4).take 8) := bs_extract l 4 12
  have e3 : (bs l).extract 0 28 = bs (l.take 28) := bs_to l 28
  have HG1 := hide (fun W => rget_any (bs ((l.drop 2).take 2)) (by rw [bs_size, List.length_take]; omega) W)
  have HG2 := hide (fun W => rget_any (bs ((l.drop 4).take 8)) (by rw [bs_size, List.length_take]; omega) W)
  rw [bs_toList, last8_short (by rw [List.length_take]; omega)] at HG1 HG2
  change Hid (∀ W, Calls Try.prog 25 #[.string (bs ((l.drop 2).take 2))] W fun e w' => e = .returned (.int .u64 (fld l 2 2 : Int)) ∧ W = w') at HG1
  change Hid (∀ W, Calls Try.prog 25 #[.string (bs ((l.drop 4).take 8))] W fun e w' => e = .returned (.int .u64 (fld l 4 8 : Int)) ∧ W = w') at HG2
  have b1 := fld_lt l 1 1
  have b2 := fld_lt l 2 2
  have b3 := fld_lt l 4 8
  have b4 := fld_lt l 12 1
  have b5 := fld_lt l 13 1
  simp only [Nat.reducePow] at b1 b2 b3 b4 b5
  have HF := hide (fun W => rframe_ok _ _ (fld l 4 8 : Int) _ _ h (by omega) (by omega) d hd W)
  have hfl := frameL_length (fld l 1 1) (fld l 2 2) (fld l 4 8) (fld l 12 1) (fld l 13 1) d
  have hfs := bs_size (frameL (fld l 1 1) (fld l 2 2) (fld l 4 8) (fld l 12 1) (fld l 13 1) d)
  rw [hfl] at hfs
  have e4 : (bs (frameL (fld l 1 1) (fld l 2 2) (fld l 4 8) (fld l 12 1) (fld l 13 1) d)).extract 0 28 = bs (headZ (fld l 1 1) (fld l 2 2) (fld l 4 8) (fld l 12 1) (fld l 13 1)) := by rw [bs_to, (frame_take _ _ _ _ _ d).1]
  have hne := bs_eq hh
  obtain ⟨hno, hno2⟩ := bs_ne hsum
  generalize frameL (fld l 1 1) (fld l 2 2) (fld l 4 8) (fld l 12 1) (fld l 13 1) d = fr at *
  generalize headZ (fld l 1 1) (fld l 2 2) (fld l 4 8) (fld l 12 1) (fld l 13 1) = hz at *
  generalize fld l 1 1 = f1 at *
  generalize fld l 2 2 = f2 at *
  generalize fld l 4 8 = f3 at *
  generalize fld l 12 1 = f4 at *
  generalize fld l 13 1 = f5 at *
  go_enter Try.func15, Try.ntmps15
  go_wp2_with fail
  go_region
  have HX := hide (RP.new w (tagC f1 0 0 f4 f5))
  go_wp2_with fail
  rw [show bs (List.take 2 (List.drop 2 l)) = bs ((l.drop 2).take 2) from rfl] at *
  refine (HG1.out _).mono ?_
  rintro e w1 ⟨rfl, hw1⟩
  have HX1 := hide (show RP w w1 w.heap.size (tagC f1 0 0 f4 f5) from hw1 ▸ HX.out)
  clear hw1 HX HG1 e1
  obtain ⟨⟨d0, d1, d2, d3, d4⟩, dz, dl⟩ := tagC_cells HX1.out.tag
  have HX2 := hide (show RP w (w1.setCell ⟨w.heap.size + 2, 1, none⟩ (.int .i64 f2)) w.heap.size (tagC f1 f2 0 f4 f5) from HX1.out.store 1 (.int .i64 f2))
  go_wp2_with fail
  generalize w1.setCell ⟨w.heap.size + 2, 1, none⟩ (.int .i64 f2) = w2 at *
  clear d0 d1 d2 d3 d4 dz dl HX1
  refine (HG2.out _).mono ?_
  rintro e w3 ⟨rfl, rfl⟩
  obtain ⟨⟨d0, d1, d2, d3, d4⟩, dz, dl⟩ := tagC_cells HX2.out.tag
  have HX3 := hide (show RP w (w2.setCell ⟨w.heap.size + 2, 2, none⟩ (.int .u64 f3)) w.heap.size (tagC f1 f2 f3 f4 f5) from HX2.out.store 2 (.int .u64 f3))
  go_wp2_with fail
  generalize w2.setCell ⟨w.heap.size + 2, 2, none⟩ (.int .u64 f3) = w4 at *
  clear d0 d1 d2 d3 d4 dz dl HX2 HG2 e2
  refine (HF.out _).mono ?_
  rintro e w5 ⟨rfl, hb⟩
  have HX5 := hide (HX3.out.kept hb)
  clear hb HX3 HF
  obtain ⟨⟨d0, d1, d2, d3, d4⟩, dz, dl⟩ := tagC_cells HX5.out.no
  obtain ⟨⟨g0, g1, g2, g3, g4⟩, gz, gl⟩ := tagC_cells HX5.out.res
  go_upto_region 8 with (fail)
  go_quiet (fail)
  go_wp2_with fail
  exact bodyPost_ret (res_rtag2 Try.results15 _ _ w.heap.size 0 0 0 0 0 _ rfl rfl (five_set (HX5.out.drewN nq).res)) rfl ⟨rfl, below5 (HX5.out.drewN nq).below _ HX5.out.wa _ _ _ _ _⟩
set_option maxRecDepth 100000 in
set_option maxHeartbeats 1000000 in
theorem rparse_good (d l : List UInt8) (hl : l.length = 32) (hd : d.length ≤ 1000000) (h : TagOk (fld l 1 1) (fld l 2 2) (fld l 12 1) (fld l 13 1)) (hh : headZ (fld l 1 1) (fld l 2 2) (fld l 4 8) (fld l 12 1) (fld l 13 1) = l.take 28) (hsum : frameL (fld l 1 1) (fld l 2 2) (fld l 4 8) (fld l 12 1) (fld l 13 1) d = l) (w : World) :
    Calls Try.prog 15 #[.string (bs d), .string (bs l)] w fun e w' => e = .returned (.tuple #[.agg (tagC (fld l 1 1) (fld l 2 2) (fld l 4 8) (fld l 12 1) (fld l 13 1)), .int .i64 0]) ∧ Below w.heap.size w w' := by
  have hs := bs_size l
  rw [hl] at hs
  have i1 := index_at l 1 (by omega)
  have i12 := index_at l 12 (by omega)
  have i13 := index_at l 13 (by omega)
  rw [← fld_one l _ (by omega)] at i1 i12 i13
  have e1 : (bs l).extract 2 4 = bs ((l.drop 2).take 2) := bs_extract l 2 4
  have e2 : (bs l).extract 4 12 = bs ((l.drop 4).take 8) := bs_extract l 4 12
  have e3 : (bs l).extract 0 28 = bs (l.take 28) := bs_to l 28
  have HG1 := hide (fun W => rget_any (bs ((l.drop 2).take 2)) (by rw [bs_size, List.length_take]; omega) W)
  have HG2 := hide (fun W => rget_any (bs ((l.drop 4).take 8)) (by rw [bs_size, List.length_take]; omega) W)
  rw [bs_toList, last8_short (by rw [List.length_take]; omega)] at HG1 HG2
  change Hid (∀ W, Calls Try.prog 25 #[.string (bs ((l.drop 2).take 2))] W fun e w' => e = .returned (.int .u64 (fld l 2 2 : Int)) ∧ W = w') at HG1
  change Hid (∀ W, Calls Try.prog 25 #[.string (bs ((l.drop 4).take 8))] W fun e w' => e = .returned (.int .u64 (fld l 4 8 : Int)) ∧ W = w') at HG2
  have b1 := fld_lt l 1 1
  have b2 := fld_lt l 2 2
  have b3 := fld_lt l 4 8
  have b4 := fld_lt l 12 1
  have b5 := fld_lt l 13 1
  simp only [Nat.reducePow] at b1 b2 b3 b4 b5
  have HF := hide (fun W => rframe_ok _ _ (fld l 4 8 : Int) _ _ h (by omega) (by omega) d hd W)
  have hfl := frameL_length (fld l 1 1) (fld l 2 2) (fld l 4 8) (fld l 12 1) (fld l 13 1) d
  have hfs := bs_size (frameL (fld l 1 1) (fld l 2 2) (fld l 4 8) (fld l 12 1) (fld l 13 1) d)
  rw [hfl] at hfs
  have e4 : (bs (frameL (fld l 1 1) (fld l 2 2) (fld l 4 8) (fld l 12 1) (fld l 13 1) d)).extract 0 28 = bs (headZ (fld l 1 1) (fld l 2 2) (fld l 4 8) (fld l 12 1) (fld l 13 1)) := by rw [bs_to, (frame_take _ _ _ _ _ d).1]
  have hne := bs_eq hh
  have hno := bs_eq hsum
  generalize frameL (fld l 1 1) (fld l 2 2) (fld l 4 8) (fld l 12 1) (fld l 13 1) d = fr at *
  generalize headZ (fld l 1 1) (fld l 2 2) (fld l 4 8) (fld l 12 1) (fld l 13 1) = hz at *
  generalize fld l 1 1 = f1 at *
  generalize fld l 2 2 = f2 at *
  generalize fld l 4 8 = f3 at *
  generalize fld l 12 1 = f4 at *
  generalize fld l 13 1 = f5 at *
  go_enter Try.func15, Try.ntmps15
  go_wp2_with fail
  go_region
  have HX := hide (RP.new w (tagC f1 0 0 f4 f5))
  go_wp2_with fail
  rw [show bs (List.take 2 (List.drop 2 l)) = bs ((l.drop 2).take 2) from rfl] at *
  refine (HG1.out _).mono ?_
  rintro e w1 ⟨rfl, hw1⟩
  have HX1 := hide (show RP w w1 w.heap.size (tagC f1 0 0 f4 f5) from hw1 ▸ HX.out)
  clear hw1 HX HG1 e1
  obtain ⟨⟨d0, d1, d2, d3, d4⟩, dz, dl⟩ := tagC_cells HX1.out.tag
  have HX2 := hide (show RP w (w1.setCell ⟨w.heap.size + 2, 1, none⟩ (.int .i64 f2)) w.heap.size (tagC f1 f2 0 f4 f5) from HX1.out.store 1 (.int .i64 f2))
  go_wp2_with fail
  generalize w1.setCell ⟨w.heap.size + 2, 1, none⟩ (.int .i64 f2) = w2 at *
  clear d0 d1 d2 d3 d4 dz dl HX1
  refine (HG2.out _).mono ?_
  rintro e w3 ⟨rfl, rfl⟩
  obtain ⟨⟨d0, d1, d2, d3, d4⟩, dz, dl⟩ := tagC_cells HX2.out.tag
  have HX3 := hide (show RP w (w2.setCell ⟨w.heap.size + 2, 2, none⟩ (.int .u64 f3)) w.heap.size (tagC f1 f2 f3 f4 f5) from HX2.out.store 2 (.int .u64 f3))
  go_wp2_with fail
  generalize w2.setCell ⟨w.heap.size + 2, 2, none⟩ (.int .u64 f3) = w4 at *
  clear d0 d1 d2 d3 d4 dz dl HX2 HG2 e2
  refine (HF.out _).mono ?_
  rintro e w5 ⟨rfl, hb⟩
  have HX5 := hide (HX3.out.kept hb)
  clear hb HX3 HF
  obtain ⟨⟨d0, d1, d2, d3, d4⟩, dz, dl⟩ := tagC_cells HX5.out.tag
  obtain ⟨⟨g0, g1, g2, g3, g4⟩, gz, gl⟩ := tagC_cells HX5.out.res
  go_upto_region 8 with (fail)
  go_quiet (fail)
  go_wp2_with fail
  exact bodyPost_ret (res_rtag2 Try.results15 _ _ w.heap.size f1 f2 f3 f4 f5 _ rfl rfl (five_set (HX5.out.drewN nq).res)) rfl ⟨rfl, below5 (HX5.out.drewN nq).below _ HX5.out.wa _ _ _ _ _⟩
theorem rparse_any (d l : List UInt8) (hd : d.length ≤ 1000000) (hm : l.length ≤ 9223372036854775807) (w : World) :
    Calls Try.prog 15 #[.string (bs d), .string (bs l)] w fun e w' => e = .returned (.tuple #[parseV d l, .int .i64 (parseE d l)]) ∧ Below w.heap.size w w' := by
  by_cases hl : l.length = 32
  · by_cases h1 : TagOk (fld l 1 1) (fld l 2 2) (fld l 12 1) (fld l 13 1)
    · by_cases h2 : headZ (fld l 1 1) (fld l 2 2) (fld l 4 8) (fld l 12 1) (fld l 13 1) = l.take 28
      · have hok : OkHead (l.take 28) := by
          unfold OkHead
          rw [fld_take l 1 1 (by omega), fld_take l 2 2 (by omega), fld_take l 4 8 (by omega), fld_take l 12 1 (by omega), fld_take l 13 1 (by omega)]
          exact ⟨h1, h2⟩
        have hfr : frameL (fld l 1 1) (fld l 2 2) (fld l 4 8) (fld l 12 1) (fld l 13 1) d = l.take 28 ++ sumL d (l.take 28) := by rw [← h2]; rfl
        by_cases h3 : sumL d (l.take 28) = l.drop 28
        · have hz := parseE_ok d l hl hok h3
          rw [parseV_ok d l hz, hz]
          exact rparse_good d l hl hd h1 h2 (by rw [hfr, h3, List.take_append_drop]) w
        · have hz := parseE_sum d l hl hok h3
          rw [parseV_no d l (by omega), hz]
          refine rparse_sum d l hl hd h1 h2 (fun e => h3 ?_) w
          rw [hfr] at e
          have h28 : (l.take 28).length = 28 := by rw [List.length_take]; omega
          have h4 := congrArg (List.drop (l.take 28).length) e
          rw [List.drop_left, h28] at h4
          exact h4
      · have hz := parseE_form d l (fun h => h2 (by
          have := h.2
          rwa [fld_take l 1 1 (by omega), fld_take l 2 2 (by omega), fld_take l 4 8 (by omega), fld_take l 12 1 (by omega), fld_take l 13 1 (by omega)] at this))
        rw [parseV_no d l (by omega), hz]
        exact rparse_head d l hl hd h1 h2 w
    · have hz := parseE_form d l (fun h => h1 (by
        have := h.1
        rwa [fld_take l 1 1 (by omega), fld_take l 2 2 (by omega), fld_take l 12 1 (by omega), fld_take l 13 1 (by omega)] at this))
      rw [parseV_no d l (by omega), hz]
      exact rparse_form d l hl hd h1 w
  · have hz := parseE_len d l hl
    rw [parseV_no d l (by omega), hz]
    exact rparse_len (bs d) l hl hm w
end Go.Proofs.Ytoigejgpagoghaa
