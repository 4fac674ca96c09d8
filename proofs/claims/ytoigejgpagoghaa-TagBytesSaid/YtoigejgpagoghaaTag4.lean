/-
  Layer 6, the program's calls: Parse, by contracts.
-/
import Derived.Test.YtoigejgpagoghaaTag3
namespace Go.Proofs.Ytoigejgpagoghaa
set_option linter.unusedSimpArgs false
set_option linter.unusedVariables false
open Go.RowKit Go.WideShapes Go.ChangeShapes Go.ChangeAt

theorem parse_nil (d b : ByteArray) (w : World) :
    Calls Try.prog 14 #[.pointer none, .string d, .string b] w fun e w' => e = .returned (.tuple #[.agg (tagC 0 0 0 0 0), .int .i64 1]) ∧ Below w.heap.size w w' := by
  go_enter Try.func14, Try.ntmps14
  go_wp2_with fail
  exact bodyPost_ret (res_tag2 Try.results14 _ _ w.heap.size 0 0 0 0 0 _ rfl rfl (heap_new _ _)) rfl ⟨rfl, (Below.refl _ _).alloc (Nat.le_refl _) _⟩
set_option maxRecDepth 100000 in
set_option maxHeartbeats 400000 in
theorem parse_len (b o : Nat) (d : ByteArray) (l : List UInt8) (hl : l.length ≠ 32) (hm : l.length ≤ 9223372036854775807) (w : World) :
    Calls Try.prog 14 #[.pointer (some ⟨b, o, none⟩), .string d, .string (bs l)] w fun e w' => e = .returned (.tuple #[.agg (tagC 0 0 0 0 0), .int .i64 4]) ∧ Below w.heap.size w w' := by
  have hs := bs_size l
  have hx : (((bs l).size : Int) == 32) = false := by rw [hs, beq_eq_false_iff_ne]; omega
  go_enter Try.func14, Try.ntmps14
  go_wp2_with fail
  exact bodyPost_ret (res_tag2 Try.results14 _ _ w.heap.size 0 0 0 0 0 _ rfl rfl (heap_new _ _)) rfl ⟨rfl, (Below.refl _ _).alloc (Nat.le_refl _) _⟩
theorem heap_alloc_sz (w : World) (o : Obj) : (w.alloc o).heap.size = w.heap.size + 1 := by show (w.heap.push o).size = _; simp
theorem bs_ne {a b : List UInt8} (h : a ≠ b) : ((bs a).toList == (bs b).toList) = false ∧ ¬ bs a = bs b := ⟨by rw [ByteArray.toList_eq, ByteArray.toList_eq, bs_toList, bs_toList, beq_eq_false_iff_ne]; exact h, fun e => h (bs_inj e)⟩
theorem bs_eq {a b : List UInt8} (h : a = b) : ((bs a).toList == (bs b).toList) = true := by rw [h]; simp
/-- after the fields are read: the result's cells, the tag's, what is below -/
structure PX (w0 W : World) (A B : Nat) (T : Array Value) : Prop where
  res : W.heap[A]? = some (.cells (tagC 0 0 0 0 0) 37 (0, 0))
  tag : W.heap[B]? = some (.cells T 37 (0, 0))
  ab : A ≠ B
  wa : w0.heap.size ≤ A
  wb : w0.heap.size ≤ B
  below : Below w0.heap.size w0 W
theorem PX.kept {w0 W W' : World} {A B : Nat} {T : Array Value} (h : PX w0 W A B T) (hb : Below W.heap.size W W') : PX w0 W' A B T :=
  ⟨(hb.block _ (heap_lt h.res)).trans h.res, (hb.block _ (heap_lt h.tag)).trans h.tag, h.ab, h.wa, h.wb, below_trans h.below hb⟩
theorem PX.drew {w0 W : World} {A B : Nat} {T : Array Value} (h : PX w0 W A B T) : PX w0 W.drew A B T := ⟨h.res, h.tag, h.ab, h.wa, h.wb, h.below.drew⟩
theorem PX.new {w0 w1 : World} {T : Array Value} (hb : Below (w0.alloc (.cells (tagC 0 0 0 0 0) 37)).heap.size (w0.alloc (.cells (tagC 0 0 0 0 0) 37)) w1) : PX w0 (w1.alloc (.cells T 37)) w0.heap.size w1.heap.size T := by
  have hs := hb.size
  rw [heap_alloc_sz] at hs
  have h1 : w1.heap[w0.heap.size]? = some (.cells (tagC 0 0 0 0 0) 37 (0, 0)) := (hb.block _ (by rw [heap_alloc_sz]; omega)).trans (heap_new _ _)
  refine ⟨(heap_old w1 _ _ (by omega)).trans h1, heap_new _ _, by omega, Nat.le_refl _, by omega, ?_⟩
  exact (below_trans ((Below.refl _ _).alloc (Nat.le_refl _) _) hb).alloc (by omega) _
set_option maxRecDepth 100000 in
set_option maxHeartbeats 400000 in
theorem parse_right (b o : Nat) (d l : List UInt8) (hl : l.length = 32) (h : ¬ TagOk (fld (l.take 28) 1 1) (fld (l.take 28) 2 2) (fld (l.take 28) 12 1) (fld (l.take 28) 13 1)) (w : World) :
    Calls Try.prog 14 #[.pointer (some ⟨b, o, none⟩), .string (bs d), .string (bs l)] w fun e w' => e = .returned (.tuple #[.agg (tagC 0 0 0 0 0), .int .i64 4]) ∧ Below w.heap.size w w' := by
  have hs := bs_size l
  rw [hl] at hs
  have h28 : (l.take 28).length = 28 := by rw [List.length_take]; omega
  have hs28 := bs_size (l.take 28)
  rw [h28] at hs28
  have e1 : bs (l.take 28) = (bs l).extract 0 28 := (bs_to l 28).symm
  have HP := hide (fun W => parseHead_any (l.take 28) h28 W)
  have HR := hide (fun s W => tright_no _ _ s _ _ h W)
  have b1 := fld_lt (l.take 28) 1 1
  have b2 := fld_lt (l.take 28) 2 2
  have b3 := fld_lt (l.take 28) 4 8
  have b4 := fld_lt (l.take 28) 12 1
  have b5 := fld_lt (l.take 28) 13 1
  generalize fld (l.take 28) 1 1 = f1 at *
  generalize fld (l.take 28) 2 2 = f2 at *
  generalize fld (l.take 28) 4 8 = f3 at *
  generalize fld (l.take 28) 12 1 = f4 at *
  generalize fld (l.take 28) 13 1 = f5 at *
  simp only [Nat.reducePow] at b1 b2 b3 b4 b5
  go_enter Try.func14, Try.ntmps14
  go_wp2_with fail
  rw [← e1]
  refine (HP.out _).mono ?_
  rintro e w1 ⟨rfl, hb⟩
  have HX := hide (PX.new (T := tagC f1 f2 f3 f4 f5) hb)
  clear hb HP e1
  simp only [tagC]
  go_wp2_with fail
  refine (HR.out _ _).mono ?_
  rintro e w2 ⟨rfl, hb⟩
  have HX2 := hide (HX.out.kept hb)
  clear hb HX HR
  generalize w1.heap.size = B at *
  obtain ⟨⟨g0, g1, g2, g3, g4⟩, gz, gl⟩ := tagC_cells HX2.out.res
  go_wp2_with fail
  exact bodyPost_ret (res_tag2 Try.results14 _ _ w.heap.size 0 0 0 0 0 _ rfl rfl (five_set HX2.out.res)) rfl ⟨rfl, ((((HX2.out.below.setCell (Nat.le_refl _) _).setCell (Nat.le_refl _) _).setCell (Nat.le_refl _) _).setCell (Nat.le_refl _) _).setCell (Nat.le_refl _) _⟩
set_option maxRecDepth 100000 in
set_option maxHeartbeats 400000 in
theorem parse_head (b o : Nat) (d l : List UInt8) (hl : l.length = 32) (h : TagOk (fld (l.take 28) 1 1) (fld (l.take 28) 2 2) (fld (l.take 28) 12 1) (fld (l.take 28) 13 1)) (hh : headZ (fld (l.take 28) 1 1) (fld (l.take 28) 2 2) (fld (l.take 28) 4 8) (fld (l.take 28) 12 1) (fld (l.take 28) 13 1) ≠ l.take 28) (w : World) :
    Calls Try.prog 14 #[.pointer (some ⟨b, o, none⟩), .string (bs d), .string (bs l)] w fun e w' => e = .returned (.tuple #[.agg (tagC 0 0 0 0 0), .int .i64 4]) ∧ Below w.heap.size w w' := by
  have hs := bs_size l
  rw [hl] at hs
  have h28 : (l.take 28).length = 28 := by rw [List.length_take]; omega
  have hs28 := bs_size (l.take 28)
  rw [h28] at hs28
  have e1 : bs (l.take 28) = (bs l).extract 0 28 := (bs_to l 28).symm
  have HP := hide (fun W => parseHead_any (l.take 28) h28 W)
  have HR := hide (fun s W => tright_yes _ _ s _ _ h W)
  have HH := hide (fun W => head_any _ _ (fld (l.take 28) 4 8 : Int) _ _ h (by omega) (by have := fld_lt (l.take 28) 4 8; simp only [Nat.reducePow] at this; omega) W)
  obtain ⟨hne, hne2⟩ := bs_ne hh
  generalize headZ (fld (l.take 28) 1 1) (fld (l.take 28) 2 2) (fld (l.take 28) 4 8) (fld (l.take 28) 12 1) (fld (l.take 28) 13 1) = hz at *
  have b1 := fld_lt (l.take 28) 1 1
  have b2 := fld_lt (l.take 28) 2 2
  have b3 := fld_lt (l.take 28) 4 8
  have b4 := fld_lt (l.take 28) 12 1
  have b5 := fld_lt (l.take 28) 13 1
  generalize fld (l.take 28) 1 1 = f1 at *
  generalize fld (l.take 28) 2 2 = f2 at *
  generalize fld (l.take 28) 4 8 = f3 at *
  generalize fld (l.take 28) 12 1 = f4 at *
  generalize fld (l.take 28) 13 1 = f5 at *
  simp only [Nat.reducePow] at b1 b2 b3 b4 b5
  go_enter Try.func14, Try.ntmps14
  go_wp2_with fail
  rw [← e1]
  refine (HP.out _).mono ?_
  rintro e w1 ⟨rfl, hb⟩
  have HX := hide (PX.new (T := tagC f1 f2 f3 f4 f5) hb)
  clear hb HP e1
  simp only [tagC]
  go_wp2_with fail
  refine (HR.out _ _).mono ?_
  rintro e w2 ⟨rfl, hb⟩
  have HX2 := hide (HX.out.kept hb)
  clear hb HX HR
  generalize w1.heap.size = B at *
  obtain ⟨⟨d0, d1, d2, d3, d4⟩, dz, dl⟩ := tagC_cells HX2.out.tag
  go_wp2_with fail
  refine (HH.out _).mono ?_
  rintro e w3 ⟨rfl, hb⟩
  have HX3 := hide (HX2.out.kept hb)
  clear hb HX2 HH d0 d1 d2 d3 d4 dz dl
  obtain ⟨⟨g0, g1, g2, g3, g4⟩, gz, gl⟩ := tagC_cells HX3.out.res
  go_wp2_with fail
  exact bodyPost_ret (res_tag2 Try.results14 _ _ w.heap.size 0 0 0 0 0 _ rfl rfl (five_set HX3.out.res)) rfl ⟨rfl, ((((HX3.out.below.setCell (Nat.le_refl _) _).setCell (Nat.le_refl _) _).setCell (Nat.le_refl _) _).setCell (Nat.le_refl _) _).setCell (Nat.le_refl _) _⟩
set_option maxRecDepth 100000 in
set_option maxHeartbeats 400000 in
theorem parse_sum (b o : Nat) (d l : List UInt8) (hl : l.length = 32) (h : TagOk (fld (l.take 28) 1 1) (fld (l.take 28) 2 2) (fld (l.take 28) 12 1) (fld (l.take 28) 13 1)) (hh : headZ (fld (l.take 28) 1 1) (fld (l.take 28) 2 2) (fld (l.take 28) 4 8) (fld (l.take 28) 12 1) (fld (l.take 28) 13 1) = l.take 28) (hd : d.length ≤ 9223372036854775807) (hsum : sumL d (l.take 28) ≠ l.drop 28) (w : World) (ht : TabAt w b o) :
    Calls Try.prog 14 #[.pointer (some ⟨b, o, none⟩), .string (bs d), .string (bs l)] w fun e w' => e = .returned (.tuple #[.agg (tagC 0 0 0 0 0), .int .i64 5]) ∧ Below w.heap.size w w' := by
  have hs := bs_size l
  rw [hl] at hs
  have h28 : (l.take 28).length = 28 := by rw [List.length_take]; omega
  have hs28 := bs_size (l.take 28)
  rw [h28] at hs28
  have e1 : bs (l.take 28) = (bs l).extract 0 28 := (bs_to l 28).symm
  have HP := hide (fun W => parseHead_any (l.take 28) h28 W)
  have HR := hide (fun s W => tright_yes _ _ s _ _ h W)
  have HH := hide (fun W => head_any _ _ (fld (l.take 28) 4 8 : Int) _ _ h (by omega) (by have := fld_lt (l.take 28) 4 8; simp only [Nat.reducePow] at this; omega) W)
  have HT := hide ht
  clear ht
  have HSUM := hide (fun W h => sum_any6 b o d (l.take 28) hd (by omega) W h)
  have e2 := bs_from l 28 32 hl.symm
  have hz2 : bs (headZ (fld (l.take 28) 1 1) (fld (l.take 28) 2 2) (fld (l.take 28) 4 8) (fld (l.take 28) 12 1) (fld (l.take 28) 13 1)) = bs (l.take 28) := by rw [hh]
  obtain ⟨hne, hne2⟩ := bs_ne hsum
  rw [hz2] at HH
  generalize sumL d (l.take 28) = sm at *
  clear hh hz2
  have b1 := fld_lt (l.take 28) 1 1
  have b2 := fld_lt (l.take 28) 2 2
  have b3 := fld_lt (l.take 28) 4 8
  have b4 := fld_lt (l.take 28) 12 1
  have b5 := fld_lt (l.take 28) 13 1
  generalize fld (l.take 28) 1 1 = f1 at *
  generalize fld (l.take 28) 2 2 = f2 at *
  generalize fld (l.take 28) 4 8 = f3 at *
  generalize fld (l.take 28) 12 1 = f4 at *
  generalize fld (l.take 28) 13 1 = f5 at *
  simp only [Nat.reducePow] at b1 b2 b3 b4 b5
  go_enter Try.func14, Try.ntmps14
  go_wp2_with fail
  rw [← e1]
  refine (HP.out _).mono ?_
  rintro e w1 ⟨rfl, hb⟩
  have HX := hide (PX.new (T := tagC f1 f2 f3 f4 f5) hb)
  clear hb HP e1
  simp only [tagC]
  go_wp2_with fail
  refine (HR.out _ _).mono ?_
  rintro e w2 ⟨rfl, hb⟩
  have HX2 := hide (HX.out.kept hb)
  clear hb HX HR
  generalize w1.heap.size = B at *
  obtain ⟨⟨d0, d1, d2, d3, d4⟩, dz, dl⟩ := tagC_cells HX2.out.tag
  go_wp2_with fail
  refine (HH.out _).mono ?_
  rintro e w3 ⟨rfl, hb⟩
  have HX3 := hide (HX2.out.kept hb)
  clear hb HX2 HH d0 d1 d2 d3 d4 dz dl
  have HT3 := hide (tabAt_below HT.out HX3.out.below (tabAt_lt HT.out))
  clear HT
  go_upto_region 9 with (fail)
  refine wp_region_held_drew (S := (fun _ => True)) (by kernel_rfl) (trivial) (fun hHeld => ?_)
  refine wpAnyH_take (i := 0) (oi := { dst := some 31, op := Op.move (Operand.tmp 0), type := 34, pos := "tag.go:87", after := #[], guard := none }) (v := ?_) rfl (by kernel_rfl) (by kernel_rfl) (by kernel_rfl) (fun _ _ _ h => h) (Or.inl ⟨by kernel_rfl, ?_⟩) hHeld ?_
  rotate_left
  · (intro w hSw; (try dsimp only at hSw); go_simp); try with_reducible rfl
  try simp only [Act.put, List.setIfInBounds_toArray, List.set_cons_zero, List.set_cons_succ]
  refine wpAnyH_take (i := 1) (oi := { dst := some 32, op := Op.move (Operand.tmp 1), type := 9, pos := "tag.go:87", after := #[], guard := none }) (v := ?_) rfl (by kernel_rfl) (by kernel_rfl) (by kernel_rfl) (fun _ _ _ h => h) (Or.inl ⟨by kernel_rfl, ?_⟩) hHeld ?_
  rotate_left
  · (intro w hSw; (try dsimp only at hSw); go_simp); try with_reducible rfl
  try simp only [Act.put, List.setIfInBounds_toArray, List.set_cons_zero, List.set_cons_succ]
  refine wpAnyH_take (i := 2) (oi := { dst := some 33, op := Op.move (Operand.tmp 8), type := 9, pos := "tag.go:87", after := #[], guard := none }) (v := ?_) rfl (by kernel_rfl) (by kernel_rfl) (by kernel_rfl) (fun _ _ _ h => h) (Or.inl ⟨by kernel_rfl, ?_⟩) hHeld ?_
  rotate_left
  · (intro w hSw; (try dsimp only at hSw); go_simp); try with_reducible rfl
  try simp only [Act.put, List.setIfInBounds_toArray, List.set_cons_zero, List.set_cons_succ]
  refine wpAnyH_take (i := 4) (oi := { dst := some 35, op := Op.move (Operand.tmp 2), type := 9, pos := "tag.go:87", after := #[], guard := none }) (v := ?_) rfl (by kernel_rfl) (by kernel_rfl) (by kernel_rfl) (fun _ _ _ h => h) (Or.inl ⟨by kernel_rfl, ?_⟩) hHeld ?_
  rotate_left
  · (intro w hSw; (try dsimp only at hSw); go_simp); try with_reducible rfl
  try simp only [Act.put, List.setIfInBounds_toArray, List.set_cons_zero, List.set_cons_succ]
  refine wpAnyH_take (i := 5) (oi := { dst := some 36, op := Op.slice 9 (Operand.tmp 35) (some (Operand.const (Value.int IntKind.i64 28))) none none, type := 9, pos := "tag.go:87", after := #[{ on := 4, ground := Ground.data }], guard := none }) (v := ?_) rfl (by kernel_rfl) (by kernel_rfl) (by kernel_rfl) (fun _ _ _ h => h) (Or.inl ⟨by kernel_rfl, ?_⟩) hHeld ?_
  rotate_left
  · (intro w hSw; (try dsimp only at hSw); go_simp); try with_reducible rfl
  try simp only [Act.put, List.setIfInBounds_toArray, List.set_cons_zero, List.set_cons_succ]
  refine wpAnyH_ready (rs := [3]) (by kernel_rfl) (by simp) ?_
  refine AllReadyH.cons (o := { dst := some 34, op := Op.call { callee := Callee.value (Operand.func 21), args := #[Operand.tmp 31, Operand.tmp 32, Operand.tmp 33], argTypes := #[34, 9, 9] }, type := 9, pos := "tag.go:87", after := #[{ on := 0, ground := Ground.data }, { on := 1, ground := Ground.data }, { on := 2, ground := Ground.data }], guard := none }) rfl (fun K hK => ?_) AllReadyH.nil
  have hOld := hide hHeld
  clear hHeld
  go_simp
  refine (HSUM.out _ (tabAt_drew HT3.out)).mono ?_
  rintro e w4 ⟨rfl, hb⟩
  have HX4 := hide (HX3.out.drew.kept hb)
  clear hb
  (try go_wp2_with fail)
  refine hK.out _ _ (trivial) (fun hHeld => ?_)
  clear hK K hOld
  try simp only [Act.put, List.setIfInBounds_toArray, List.set_cons_zero, List.set_cons_succ]
  refine wpAnyH_take (i := 6) (oi := { dst := some 37, op := Op.binOp BinOp.neq 9 (Operand.tmp 34) (Operand.tmp 36) 9, type := 4, pos := "tag.go:87", after := #[{ on := 3, ground := Ground.data }, { on := 5, ground := Ground.data }], guard := none }) (v := ?_) rfl (by kernel_rfl) (by kernel_rfl) (by kernel_rfl) (fun _ _ _ h => h) (Or.inl ⟨by kernel_rfl, ?_⟩) hHeld ?_
  rotate_left
  · (intro w hSw; (try dsimp only at hSw); go_simp); try with_reducible rfl
  try simp only [Act.put, List.setIfInBounds_toArray, List.set_cons_zero, List.set_cons_succ]
  refine wpAnyH_done (by kernel_rfl) ?_ _
  clear hHeld HX3 HT3 HSUM
  obtain ⟨⟨g0, g1, g2, g3, g4⟩, gz, gl⟩ := tagC_cells HX4.out.res
  go_wp2_with fail
  exact bodyPost_ret (res_tag2 Try.results14 _ _ w.heap.size 0 0 0 0 0 _ rfl rfl (five_set HX4.out.res)) rfl ⟨rfl, ((((HX4.out.below.setCell (Nat.le_refl _) _).setCell (Nat.le_refl _) _).setCell (Nat.le_refl _) _).setCell (Nat.le_refl _) _).setCell (Nat.le_refl _) _⟩
set_option maxRecDepth 100000 in
set_option maxHeartbeats 400000 in
theorem parse_good (b o : Nat) (d l : List UInt8) (hl : l.length = 32) (h : TagOk (fld (l.take 28) 1 1) (fld (l.take 28) 2 2) (fld (l.take 28) 12 1) (fld (l.take 28) 13 1)) (hh : headZ (fld (l.take 28) 1 1) (fld (l.take 28) 2 2) (fld (l.take 28) 4 8) (fld (l.take 28) 12 1) (fld (l.take 28) 13 1) = l.take 28) (hd : d.length ≤ 9223372036854775807) (hsum : sumL d (l.take 28) = l.drop 28) (w : World) (ht : TabAt w b o) :
    Calls Try.prog 14 #[.pointer (some ⟨b, o, none⟩), .string (bs d), .string (bs l)] w fun e w' => e = .returned (.tuple #[.agg (tagC (fld (l.take 28) 1 1) (fld (l.take 28) 2 2) (fld (l.take 28) 4 8) (fld (l.take 28) 12 1) (fld (l.take 28) 13 1)), .int .i64 0]) ∧ Below w.heap.size w w' := by
  have hs := bs_size l
  rw [hl] at hs
  have h28 : (l.take 28).length = 28 := by rw [List.length_take]; omega
  have hs28 := bs_size (l.take 28)
  rw [h28] at hs28
  have e1 : bs (l.take 28) = (bs l).extract 0 28 := (bs_to l 28).symm
  have HP := hide (fun W => parseHead_any (l.take 28) h28 W)
  have HR := hide (fun s W => tright_yes _ _ s _ _ h W)
  have HH := hide (fun W => head_any _ _ (fld (l.take 28) 4 8 : Int) _ _ h (by omega) (by have := fld_lt (l.take 28) 4 8; simp only [Nat.reducePow] at this; omega) W)
  have HT := hide ht
  clear ht
  have HSUM := hide (fun W h => sum_any6 b o d (l.take 28) hd (by omega) W h)
  have e2 := bs_from l 28 32 hl.symm
  have hz2 : bs (headZ (fld (l.take 28) 1 1) (fld (l.take 28) 2 2) (fld (l.take 28) 4 8) (fld (l.take 28) 12 1) (fld (l.take 28) 13 1)) = bs (l.take 28) := by rw [hh]
  rw [hz2] at HH
  rw [hsum] at HSUM
  clear hh hz2 hsum
  have b1 := fld_lt (l.take 28) 1 1
  have b2 := fld_lt (l.take 28) 2 2
  have b3 := fld_lt (l.take 28) 4 8
  have b4 := fld_lt (l.take 28) 12 1
  have b5 := fld_lt (l.take 28) 13 1
  generalize fld (l.take 28) 1 1 = f1 at *
  generalize fld (l.take 28) 2 2 = f2 at *
  generalize fld (l.take 28) 4 8 = f3 at *
  generalize fld (l.take 28) 12 1 = f4 at *
  generalize fld (l.take 28) 13 1 = f5 at *
  simp only [Nat.reducePow] at b1 b2 b3 b4 b5
  go_enter Try.func14, Try.ntmps14
  go_wp2_with fail
  rw [← e1]
  refine (HP.out _).mono ?_
  rintro e w1 ⟨rfl, hb⟩
  have HX := hide (PX.new (T := tagC f1 f2 f3 f4 f5) hb)
  clear hb HP e1
  simp only [tagC]
  go_wp2_with fail
  refine (HR.out _ _).mono ?_
  rintro e w2 ⟨rfl, hb⟩
  have HX2 := hide (HX.out.kept hb)
  clear hb HX HR
  generalize w1.heap.size = B at *
  obtain ⟨⟨d0, d1, d2, d3, d4⟩, dz, dl⟩ := tagC_cells HX2.out.tag
  go_wp2_with fail
  refine (HH.out _).mono ?_
  rintro e w3 ⟨rfl, hb⟩
  have HX3 := hide (HX2.out.kept hb)
  clear hb HX2 HH d0 d1 d2 d3 d4 dz dl
  have HT3 := hide (tabAt_below HT.out HX3.out.below (tabAt_lt HT.out))
  clear HT
  go_upto_region 9 with (fail)
  refine wp_region_held_drew (S := (fun _ => True)) (by kernel_rfl) (trivial) (fun hHeld => ?_)
  refine wpAnyH_take (i := 0) (oi := { dst := some 31, op := Op.move (Operand.tmp 0), type := 34, pos := "tag.go:87", after := #[], guard := none }) (v := ?_) rfl (by kernel_rfl) (by kernel_rfl) (by kernel_rfl) (fun _ _ _ h => h) (Or.inl ⟨by kernel_rfl, ?_⟩) hHeld ?_
  rotate_left
  · (intro w hSw; (try dsimp only at hSw); go_simp); try with_reducible rfl
  try simp only [Act.put, List.setIfInBounds_toArray, List.set_cons_zero, List.set_cons_succ]
  refine wpAnyH_take (i := 1) (oi := { dst := some 32, op := Op.move (Operand.tmp 1), type := 9, pos := "tag.go:87", after := #[], guard := none }) (v := ?_) rfl (by kernel_rfl) (by kernel_rfl) (by kernel_rfl) (fun _ _ _ h => h) (Or.inl ⟨by kernel_rfl, ?_⟩) hHeld ?_
  rotate_left
  · (intro w hSw; (try dsimp only at hSw); go_simp); try with_reducible rfl
  try simp only [Act.put, List.setIfInBounds_toArray, List.set_cons_zero, List.set_cons_succ]
  refine wpAnyH_take (i := 2) (oi := { dst := some 33, op := Op.move (Operand.tmp 8), type := 9, pos := "tag.go:87", after := #[], guard := none }) (v := ?_) rfl (by kernel_rfl) (by kernel_rfl) (by kernel_rfl) (fun _ _ _ h => h) (Or.inl ⟨by kernel_rfl, ?_⟩) hHeld ?_
  rotate_left
  · (intro w hSw; (try dsimp only at hSw); go_simp); try with_reducible rfl
  try simp only [Act.put, List.setIfInBounds_toArray, List.set_cons_zero, List.set_cons_succ]
  refine wpAnyH_take (i := 4) (oi := { dst := some 35, op := Op.move (Operand.tmp 2), type := 9, pos := "tag.go:87", after := #[], guard := none }) (v := ?_) rfl (by kernel_rfl) (by kernel_rfl) (by kernel_rfl) (fun _ _ _ h => h) (Or.inl ⟨by kernel_rfl, ?_⟩) hHeld ?_
  rotate_left
  · (intro w hSw; (try dsimp only at hSw); go_simp); try with_reducible rfl
  try simp only [Act.put, List.setIfInBounds_toArray, List.set_cons_zero, List.set_cons_succ]
  refine wpAnyH_take (i := 5) (oi := { dst := some 36, op := Op.slice 9 (Operand.tmp 35) (some (Operand.const (Value.int IntKind.i64 28))) none none, type := 9, pos := "tag.go:87", after := #[{ on := 4, ground := Ground.data }], guard := none }) (v := ?_) rfl (by kernel_rfl) (by kernel_rfl) (by kernel_rfl) (fun _ _ _ h => h) (Or.inl ⟨by kernel_rfl, ?_⟩) hHeld ?_
  rotate_left
  · (intro w hSw; (try dsimp only at hSw); go_simp); try with_reducible rfl
  try simp only [Act.put, List.setIfInBounds_toArray, List.set_cons_zero, List.set_cons_succ]
  refine wpAnyH_ready (rs := [3]) (by kernel_rfl) (by simp) ?_
  refine AllReadyH.cons (o := { dst := some 34, op := Op.call { callee := Callee.value (Operand.func 21), args := #[Operand.tmp 31, Operand.tmp 32, Operand.tmp 33], argTypes := #[34, 9, 9] }, type := 9, pos := "tag.go:87", after := #[{ on := 0, ground := Ground.data }, { on := 1, ground := Ground.data }, { on := 2, ground := Ground.data }], guard := none }) rfl (fun K hK => ?_) AllReadyH.nil
  have hOld := hide hHeld
  clear hHeld
  go_simp
  refine (HSUM.out _ (tabAt_drew HT3.out)).mono ?_
  rintro e w4 ⟨rfl, hb⟩
  have HX4 := hide (HX3.out.drew.kept hb)
  clear hb
  (try go_wp2_with fail)
  refine hK.out _ _ (trivial) (fun hHeld => ?_)
  clear hK K hOld
  try simp only [Act.put, List.setIfInBounds_toArray, List.set_cons_zero, List.set_cons_succ]
  refine wpAnyH_take (i := 6) (oi := { dst := some 37, op := Op.binOp BinOp.neq 9 (Operand.tmp 34) (Operand.tmp 36) 9, type := 4, pos := "tag.go:87", after := #[{ on := 3, ground := Ground.data }, { on := 5, ground := Ground.data }], guard := none }) (v := ?_) rfl (by kernel_rfl) (by kernel_rfl) (by kernel_rfl) (fun _ _ _ h => h) (Or.inl ⟨by kernel_rfl, ?_⟩) hHeld ?_
  rotate_left
  · (intro w hSw; (try dsimp only at hSw); go_simp); try with_reducible rfl
  try simp only [Act.put, List.setIfInBounds_toArray, List.set_cons_zero, List.set_cons_succ]
  refine wpAnyH_done (by kernel_rfl) ?_ _
  clear hHeld HX3 HT3 HSUM

  obtain ⟨⟨d0, d1, d2, d3, d4⟩, dz, dl⟩ := tagC_cells HX4.out.tag
  obtain ⟨⟨g0, g1, g2, g3, g4⟩, gz, gl⟩ := tagC_cells HX4.out.res
  have hab := HX4.out.ab
  go_wp2_with fail
  exact bodyPost_ret (res_tag2 Try.results14 _ _ w.heap.size f1 f2 f3 f4 f5 _ rfl rfl (five_set HX4.out.res)) rfl ⟨rfl, ((((HX4.out.below.setCell (Nat.le_refl _) _).setCell (Nat.le_refl _) _).setCell (Nat.le_refl _) _).setCell (Nat.le_refl _) _).setCell (Nat.le_refl _) _⟩
end Go.Proofs.Ytoigejgpagoghaa
