/-
  Layer 6, the program's calls: the tag of bytes, by contracts.
-/
import Derived.Test.YtoigejgpagoghaaTag2
namespace Go.Proofs.Ytoigejgpagoghaa
set_option linter.unusedSimpArgs false
set_option linter.unusedVariables false
open Go.RowKit Go.WideShapes Go.ChangeShapes Go.ChangeAt

theorem bs_extract (l : List UInt8) (a b : Nat) : (bs l).extract a b = bs ((l.drop a).take (b - a)) := by
  apply ByteArray.ext
  simp [bs, List.extract_eq_take_drop]
theorem bs_to (l : List UInt8) (b : Nat) : (bs l).extract 0 b = bs (l.take b) := by rw [bs_extract]; simp
theorem bs_from (l : List UInt8) (a n : Nat) (h : n = l.length) : (bs l).extract a n = bs (l.drop a) := by rw [bs_extract, List.take_of_length_le (by simp; omega)]
theorem rdNum_bs (l : List UInt8) (wd : Nat) (h1 : 1 ≤ wd) (h8 : wd ≤ 8) (h : wd ≤ l.length) : rdNum (bs l) false (wd : Int) = (bs (l.take wd), bs (l.drop wd), false) := by
  have e : decide (1 ≤ (wd : Int) ∧ (wd : Int) ≤ 8) = true := decide_eq_true (by omega)
  unfold rdNum rdTake
  rw [if_neg (by simp), e, if_neg (by rw [bs_size]; simp; omega), Int.toNat_natCast, bs_to, bs_from _ _ _ (bs_size l)]
theorem number_fld (r : Nat) (l : List UInt8) (hl : l.length ≤ 1000) (wd : Nat) (h1 : 1 ≤ wd) (h8 : wd ≤ 8) (h : wd ≤ l.length) (w : World) (hr : RdAt w r (bs l) false) :
    Calls Try.prog 42 #[.pointer (some ⟨r, 0, none⟩), .int .i64 (wd : Int)] w fun e w' => e = .returned (.int .u64 (getN (l.take wd) : Int)) ∧ RdAt w' r (bs (l.drop wd)) false ∧ Only r w w' := by
  have := number_any r (bs l) (by rw [bs_size]; omega) false (wd : Int) w hr
  rw [rdNum_bs l wd h1 h8 h] at this
  simp only [bs_toList] at this
  rwa [last8_short (by rw [List.length_take]; omega)] at this
theorem RdAt.setOther {w : World} {r B j : Nat} {s : ByteArray} {bad : Bool} {v : Value} (h : RdAt w r s bad) (hne : B ≠ r) : RdAt (w.setCell ⟨B, j, none⟩ v) r s bad := ⟨by rw [block_setCell_other hne]; exact h.row⟩
theorem RdAt.alloc {w : World} {r : Nat} {s : ByteArray} {bad : Bool} (h : RdAt w r s bad) (o : Obj) : RdAt (w.alloc o) r s bad := h.below ((Below.refl _ _).alloc (Nat.le_refl _) _)
def tagC (a b c d e : Int) : Array Value := #[.int .u8 a, .int .i64 b, .int .u64 c, .int .i64 d, .int .i64 e]
theorem tagC_cells {w : World} {B : Nat} {a b c d e : Int} {t : TypeId} (h : w.heap[B]? = some (.cells (tagC a b c d e) t (0, 0))) :
    (w.cell? ⟨B, 0, none⟩ = some (.int .u8 a) ∧ w.cell? ⟨B, 1, none⟩ = some (.int .i64 b) ∧ w.cell? ⟨B, 2, none⟩ = some (.int .u64 c) ∧ w.cell? ⟨B, 3, none⟩ = some (.int .i64 d) ∧ w.cell? ⟨B, 4, none⟩ = some (.int .i64 e)) ∧
    (∀ j, w.frozen? ⟨B, j, none⟩ = false) ∧ B < w.heap.size :=
  ⟨⟨by rw [cell_of_block h]; rfl, by rw [cell_of_block h]; rfl, by rw [cell_of_block h]; rfl, by rw [cell_of_block h]; rfl, by rw [cell_of_block h]; rfl⟩, fun j => frozen_of_block h j, heap_lt h⟩
theorem five_set {W : World} {A : Nat} {a b c d e x0 x1 x2 x3 x4 : Int} {t : TypeId} (h : W.heap[A]? = some (.cells (tagC a b c d e) t (0, 0))) :
    (((((W.setCell ⟨A, 0, none⟩ (.int .u8 x0)).setCell ⟨A, 1, none⟩ (.int .i64 x1)).setCell ⟨A, 2, none⟩ (.int .u64 x2)).setCell ⟨A, 3, none⟩ (.int .i64 x3)).setCell ⟨A, 4, none⟩ (.int .i64 x4)).heap[A]? = some (.cells (tagC x0 x1 x2 x3 x4) t (0, 0)) :=
  block_setCell (block_setCell (block_setCell (block_setCell (block_setCell h _ _) _ _) _ _) _ _) _ _
theorem tag_size (a b c d e : Int) : (Try.prog.info? 37).map (·.size) = some (tagC a b c d e).size := by
  show _ = some 5
  kernel_rfl
theorem res_tag {fn : Func} {p : Tmp} (h : fn.results = #[.cell p 37]) (tmps : Array Value) (w : World) (A : Nat) (a b c d e : Int)
    (hp : tmps.getD p undef = .pointer (some ⟨A, 0, none⟩)) (hg : w.heap[A]? = some (.cells (tagC a b c d e) 37 (0, 0))) : (results fn tmps).run Try.prog w = .ok (.agg (tagC a b c d e)) w :=
  results_cell_row h tmps w A _ _ _ _ hp hg Try.underlying37 rfl (tag_size a b c d e)
theorem res_tag2 {fn : Func} {p u : Tmp} (h : fn.results = #[.cell p 37, .tmp u]) (tmps : Array Value) (w : World) (A : Nat) (a b c d e : Int) (v : Value)
    (hp : tmps.getD p undef = .pointer (some ⟨A, 0, none⟩)) (hu : tmps.getD u undef = v) (hg : w.heap[A]? = some (.cells (tagC a b c d e) 37 (0, 0))) : (results fn tmps).run Try.prog w = .ok (.tuple #[.agg (tagC a b c d e), v]) w := by
  rw [results_cell_tmp h, hp, hu]
  simp [asAddr, Result.andThen, run_loadVar_row w A 37 37 _ _ _ hg Try.underlying37 rfl (tag_size a b c d e)]
theorem fld_next (l : List UInt8) (a b : Nat) : (l.drop a).drop b = l.drop (a + b) := by rw [List.drop_drop]
theorem read_new (s : ByteArray) (w : World) : Calls Try.prog 41 #[.string s] w fun e w' => ∃ r, e = .returned (.pointer (some ⟨r, 0, none⟩)) ∧ RdAt w' r s false ∧ w.heap.size ≤ r ∧ Below w.heap.size w w' :=
  (read_any s w).mono fun _ _ ⟨h1, h2, h3⟩ => ⟨_, h1, h2, Nat.le_refl _, h3⟩
/-- while fields are read: the reader, the result's cells, the tag's -/
structure PH (w0 W : World) (A B r : Nat) (l : List UInt8) (T : Array Value) : Prop where
  rd : RdAt W r (bs l) false
  res : W.heap[A]? = some (.cells (tagC 0 0 0 0 0) 37 (0, 0))
  tag : W.heap[B]? = some (.cells T 37 (0, 0))
  ra : A ≠ r
  rb : B ≠ r
  ab : A ≠ B
  wa : w0.heap.size ≤ A
  wb : w0.heap.size ≤ B
  wr : w0.heap.size ≤ r
  below : Below w0.heap.size w0 W
theorem PH.read {w0 W W' : World} {A B r : Nat} {l l' : List UInt8} {T : Array Value} (h : PH w0 W A B r l T) (hr : RdAt W' r (bs l') false) (ho : Only r W W') : PH w0 W' A B r l' T :=
  ⟨hr, (ho.block _ (heap_lt h.res) h.ra).trans h.res, (ho.block _ (heap_lt h.tag) h.rb).trans h.tag, h.ra, h.rb, h.ab, h.wa, h.wb, h.wr, ho.below h.below h.wr h.below.size⟩
theorem PH.store {w0 W : World} {A B r : Nat} {l : List UInt8} {T : Array Value} (h : PH w0 W A B r l T) (j : Nat) (v : Value) : PH w0 (W.setCell ⟨B, j, none⟩ v) A B r l (T.setIfInBounds j v) :=
  ⟨h.rd.setOther h.rb, by rw [block_setCell_other (Ne.symm h.ab)]; exact h.res, block_setCell h.tag j v, h.ra, h.rb, h.ab, h.wa, h.wb, h.wr, h.below.setCell h.wb _⟩
set_option maxRecDepth 100000 in
set_option maxHeartbeats 400000 in
theorem parseHead_any (l : List UInt8) (hl : l.length = 28) (w : World) :
    Calls Try.prog 24 #[.string (bs l)] w fun e w' => e = .returned (.agg (tagC (fld l 1 1) (fld l 2 2) (fld l 4 8) (fld l 12 1) (fld l 13 1))) ∧ Below w.heap.size w w' := by
  have hbs := bs_size l
  rw [hl] at hbs
  have b1 := fld_lt l 1 1
  have b2 := fld_lt l 2 2
  have b3 := fld_lt l 4 8
  have b4 := fld_lt l 12 1
  have b5 := fld_lt l 13 1
  have HN1 := hide (fun r W h => number_fld r (l.drop 1) (by simp; omega) 1 (by omega) (by omega) (by simp; omega) W h)
  have HN2 := hide (fun r W h => number_fld r (l.drop 2) (by simp; omega) 2 (by omega) (by omega) (by simp; omega) W h)
  have HN3 := hide (fun r W h => number_fld r (l.drop 4) (by simp; omega) 8 (by omega) (by omega) (by simp; omega) W h)
  have HN4 := hide (fun r W h => number_fld r (l.drop 12) (by simp; omega) 1 (by omega) (by omega) (by simp; omega) W h)
  have HN5 := hide (fun r W h => number_fld r (l.drop 13) (by simp; omega) 1 (by omega) (by omega) (by simp; omega) W h)
  simp only [fld_next, Nat.reduceAdd] at HN1 HN2 HN3 HN4 HN5
  have e1 : bs (l.drop 1) = (bs l).extract 1 28 := (bs_from l 1 28 hl.symm).symm
  change Hid (∀ r W, RdAt W r (bs (l.drop 1)) false → Calls Try.prog 42 #[.pointer (some ⟨r, 0, none⟩), .int .i64 1] W fun e w' => e = .returned (.int .u64 (fld l 1 1 : Int)) ∧ RdAt w' r (bs (l.drop 2)) false ∧ Only r W w') at HN1
  change Hid (∀ r W, RdAt W r (bs (l.drop 2)) false → Calls Try.prog 42 #[.pointer (some ⟨r, 0, none⟩), .int .i64 2] W fun e w' => e = .returned (.int .u64 (fld l 2 2 : Int)) ∧ RdAt w' r (bs (l.drop 4)) false ∧ Only r W w') at HN2
  change Hid (∀ r W, RdAt W r (bs (l.drop 4)) false → Calls Try.prog 42 #[.pointer (some ⟨r, 0, none⟩), .int .i64 8] W fun e w' => e = .returned (.int .u64 (fld l 4 8 : Int)) ∧ RdAt w' r (bs (l.drop 12)) false ∧ Only r W w') at HN3
  change Hid (∀ r W, RdAt W r (bs (l.drop 12)) false → Calls Try.prog 42 #[.pointer (some ⟨r, 0, none⟩), .int .i64 1] W fun e w' => e = .returned (.int .u64 (fld l 12 1 : Int)) ∧ RdAt w' r (bs (l.drop 13)) false ∧ Only r W w') at HN4
  change Hid (∀ r W, RdAt W r (bs (l.drop 13)) false → Calls Try.prog 42 #[.pointer (some ⟨r, 0, none⟩), .int .i64 1] W fun e w' => e = .returned (.int .u64 (fld l 13 1 : Int)) ∧ RdAt w' r (bs (l.drop 14)) false ∧ Only r W w') at HN5
  generalize fld l 1 1 = f1 at *
  generalize fld l 2 2 = f2 at *
  generalize fld l 4 8 = f3 at *
  generalize fld l 12 1 = f4 at *
  generalize fld l 13 1 = f5 at *
  simp only [Nat.reducePow] at b1 b2 b3 b4 b5
  go_enter Try.func24, Try.ntmps24
  go_wp2_with fail
  rw [← e1]
  refine (read_new _ _).mono ?_
  rintro e w1 ⟨r, rfl, hr, hr0, hb⟩
  have HP0 := hide (show PH w (w1.alloc (.cells (tagC 0 0 0 0 0) 37)) w.heap.size w1.heap.size r (l.drop 1) (tagC 0 0 0 0 0) from
    ⟨hr.alloc _, (heap_old w1 _ _ (by have := hb.size; simp at this; omega)).trans ((hb.block _ (by simp)).trans (heap_new _ _)), heap_new _ _, by simp at hr0; omega, by have := heap_lt hr.row; omega, by have := hb.size; simp at this; omega, Nat.le_refl _, by have := hb.size; simp at this; omega, by simp at hr0; omega,
      (below_trans ((Below.refl _ _).alloc (Nat.le_refl _) _) hb).alloc (by have := hb.size; simp at this; omega) _⟩)
  clear hr hr0 hb e1
  go_wp2_with fail
  refine (HN1.out _ _ HP0.out.rd).mono ?_
  rintro e v1 ⟨rfl, hr, ho⟩
  have HP1 := hide (HP0.out.read hr ho)
  generalize w1.heap.size = B at *
  obtain ⟨⟨d0, d1, d2, d3, d4⟩, dz, dl⟩ := tagC_cells HP1.out.tag
  have HS1 := hide (show PH w (v1.setCell ⟨B, 0, none⟩ (.int .u8 (f1 : Int))) w.heap.size B r (l.drop 2) (tagC (f1 : Int) 0 0 0 0) from HP1.out.store 0 (.int .u8 (f1 : Int)))
  clear hr ho HP0 HN1 HP1
  go_wp2_with fail
  clear d0 d1 d2 d3 d4 dz dl
  refine (HN2.out _ _ HS1.out.rd).mono ?_
  rintro e v2 ⟨rfl, hr, ho⟩
  have HP2 := hide (HS1.out.read hr ho)
  obtain ⟨⟨d0, d1, d2, d3, d4⟩, dz, dl⟩ := tagC_cells HP2.out.tag
  have HS2 := hide (show PH w (v2.setCell ⟨B, 1, none⟩ (.int .i64 (f2 : Int))) w.heap.size B r (l.drop 4) (tagC (f1 : Int) (f2 : Int) 0 0 0) from HP2.out.store 1 (.int .i64 (f2 : Int)))
  clear hr ho HS1 HN2 HP2
  go_wp2_with fail
  clear d0 d1 d2 d3 d4 dz dl
  refine (HN3.out _ _ HS2.out.rd).mono ?_
  rintro e v3 ⟨rfl, hr, ho⟩
  have HP3 := hide (HS2.out.read hr ho)
  obtain ⟨⟨d0, d1, d2, d3, d4⟩, dz, dl⟩ := tagC_cells HP3.out.tag
  have HS3 := hide (show PH w (v3.setCell ⟨B, 2, none⟩ (.int .u64 (f3 : Int))) w.heap.size B r (l.drop 12) (tagC (f1 : Int) (f2 : Int) (f3 : Int) 0 0) from HP3.out.store 2 (.int .u64 (f3 : Int)))
  clear hr ho HS2 HN3 HP3
  go_wp2_with fail
  clear d0 d1 d2 d3 d4 dz dl
  refine (HN4.out _ _ HS3.out.rd).mono ?_
  rintro e v4 ⟨rfl, hr, ho⟩
  have HP4 := hide (HS3.out.read hr ho)
  obtain ⟨⟨d0, d1, d2, d3, d4⟩, dz, dl⟩ := tagC_cells HP4.out.tag
  have HS4 := hide (show PH w (v4.setCell ⟨B, 3, none⟩ (.int .i64 (f4 : Int))) w.heap.size B r (l.drop 13) (tagC (f1 : Int) (f2 : Int) (f3 : Int) (f4 : Int) 0) from HP4.out.store 3 (.int .i64 (f4 : Int)))
  clear hr ho HS3 HN4 HP4
  go_wp2_with fail
  clear d0 d1 d2 d3 d4 dz dl
  refine (HN5.out _ _ HS4.out.rd).mono ?_
  rintro e v5 ⟨rfl, hr, ho⟩
  have HP5 := hide (HS4.out.read hr ho)
  obtain ⟨⟨d0, d1, d2, d3, d4⟩, dz, dl⟩ := tagC_cells HP5.out.tag
  have HS5 := hide (show PH w (v5.setCell ⟨B, 4, none⟩ (.int .i64 (f5 : Int))) w.heap.size B r (l.drop 14) (tagC (f1 : Int) (f2 : Int) (f3 : Int) (f4 : Int) (f5 : Int)) from HP5.out.store 4 (.int .i64 (f5 : Int)))
  obtain ⟨⟨g0, g1, g2, g3, g4⟩, gz, gl⟩ := tagC_cells HP5.out.res
  have hab := HP5.out.ab
  clear hr ho HS4 HN5 HP5
  go_wp2_with fail
  exact bodyPost_ret (res_tag Try.results24 _ _ w.heap.size f1 f2 f3 f4 f5 rfl (five_set HS5.out.res)) rfl ⟨rfl, ((((HS5.out.below.setCell (Nat.le_refl _) _).setCell (Nat.le_refl _) _).setCell (Nat.le_refl _) _).setCell (Nat.le_refl _) _).setCell (Nat.le_refl _) _⟩
end Go.Proofs.Ytoigejgpagoghaa
