/-
  Layer 28: replies written: kinds 10, 13, 14.
-/
import Derived.Test.YtkbikflincjhhaaReqK

namespace Go.Proofs.Ytkbikflincjhhaa
set_option linter.unusedSimpArgs false
set_option linter.unusedVariables false
open Go.RowKit Go.WideShapes Go.ChangeShapes Go.ChangeAt Go.Deep
theorem flag_any (b : Bool) (w : World) : Calls Try.prog 49 #[.bool b] w fun e w' => e = .returned (.int .u64 (fl1 b : Int)) ∧ w = w' := by
  cases b
  all_goals
    go_enter Try.func49, Try.ntmps49
    go_wp2_with fail
    go_ret
    exact ⟨rfl, rfl⟩
theorem fl1_le (b : Bool) : fl1 b ≤ 1 := by cases b <;> decide
theorem fit5_wu (c : Int) (h : inR c) : fitsB (wu c) 5 = fit5 c := by
  unfold fitsB fit5 wu
  rw [decide_eq_decide]
  show (1 ≤ (5 : Int) ∧ (5 : Int) ≤ 8 ∧ (IntKind.u64.wrap c).toNat < 256 ^ 5) ↔ _
  obtain ⟨h1, h2⟩ := h
  rw [IntKind.wrap_u64]
  constructor
  · rintro ⟨-, -, h3⟩; omega
  · intro h3; exact ⟨by decide, by decide, by omega⟩
theorem put5_wu (c : Int) : putS (IntKind.u64.wrap c) 5 = putL (wu c) 5 := by unfold putS wu; rw [if_pos (by decide)]; rfl
theorem fitF (b : Bool) : fitsB ((fl1 b : Int)).toNat 1 = true := by cases b <;> rfl
theorem putF (b : Bool) : putS (fl1 b : Int) 1 = putL (fl1 b) 1 := by cases b <;> rfl
set_option maxRecDepth 100000 in
set_option maxHeartbeats 1000000 in
theorem rwr10 : RWrites 10 := by
  intro x hx a cap q w0 w hin hlow T hW hB
  unfold rpC
  have hsz : w0.heap.size ≤ w.heap.size := hlow.size
  have hal := (Below.refl w.heap.size w).alloc (Nat.le_refl _) (.cells #[.int .i64 x.err, .int .i64 x.num, .int .i64 x.c, .int .i64 x.s, .int .i64 x.v, .int .i64 x.r, .int .i64 x.i, .int .i64 x.o, .int .i64 x.tn, .int .u8 x.tk, .int .i64 x.tsh, .int .i64 x.tr, .int .i64 x.ta, .int .i64 x.tl, .bool x.tv, .slice a x.L.length cap, .int .i64 x.a0, .int .i64 x.a1, .bool x.rd] 71)
  have EB := hide (heap_new w (.cells #[.int .i64 x.err, .int .i64 x.num, .int .i64 x.c, .int .i64 x.s, .int .i64 x.v, .int .i64 x.r, .int .i64 x.i, .int .i64 x.o, .int .i64 x.tn, .int .u8 x.tk, .int .i64 x.tsh, .int .i64 x.tr, .int .i64 x.ta, .int .i64 x.tl, .bool x.tv, .slice a x.L.length cap, .int .i64 x.a0, .int .i64 x.a1, .bool x.rd] 71))
  have WR := hide (hW.below hal)
  have BL := hide (hlow.alloc hsz (.cells #[.int .i64 x.err, .int .i64 x.num, .int .i64 x.c, .int .i64 x.s, .int .i64 x.v, .int .i64 x.r, .int .i64 x.i, .int .i64 x.o, .int .i64 x.tn, .int .u8 x.tk, .int .i64 x.tsh, .int .i64 x.tr, .int .i64 x.ta, .int .i64 x.tl, .bool x.tv, .slice a x.L.length cap, .int .i64 x.a0, .int .i64 x.a1, .bool x.rd] 71))
  have HR := hide hx
  have HBQ := hide hB
  have HIN := hide hin
  clear hal hW hlow hx hsz hB hin
  have HC1 := hide (fun W hw => wq_signed w0.heap.size q true T 8 (by omega) x.a0 HR.out.a0 W hw HBQ.out)
  go_enter Try.func32, Try.ntmps32
  go_upto_region 6 with (fail)
  generalize w.alloc (.cells #[.int .i64 x.err, .int .i64 x.num, .int .i64 x.c, .int .i64 x.s, .int .i64 x.v, .int .i64 x.r, .int .i64 x.i, .int .i64 x.o, .int .i64 x.tn, .int .u8 x.tk, .int .i64 x.tsh, .int .i64 x.tr, .int .i64 x.ta, .int .i64 x.tl, .bool x.tv, .slice a x.L.length cap, .int .i64 x.a0, .int .i64 x.a1, .bool x.rd] 71) = w1 at *
  generalize w.heap.size = eb at *
  have e16 := cell_of_block EB.out 16
  go_wp2_with fail
  refine (HC1.out _ WR.out).mono ?_
  rintro e w2 ⟨rfl, hw, hb, hk⟩
  have WR2 := hide hw
  have BL2 := hide (BL.out.trans hb)
  clear hw hb hk e16
  go_wp2_with fail
  go_end0
  exact ⟨rfl, WR2.out.more (by omega), BL2.out⟩
set_option maxRecDepth 100000 in
set_option maxHeartbeats 1000000 in
theorem rwr13 : RWrites 13 := by
  intro x hx a cap q w0 w hin hlow T hW hB
  unfold rpC
  have hsz : w0.heap.size ≤ w.heap.size := hlow.size
  have hal := (Below.refl w.heap.size w).alloc (Nat.le_refl _) (.cells #[.int .i64 x.err, .int .i64 x.num, .int .i64 x.c, .int .i64 x.s, .int .i64 x.v, .int .i64 x.r, .int .i64 x.i, .int .i64 x.o, .int .i64 x.tn, .int .u8 x.tk, .int .i64 x.tsh, .int .i64 x.tr, .int .i64 x.ta, .int .i64 x.tl, .bool x.tv, .slice a x.L.length cap, .int .i64 x.a0, .int .i64 x.a1, .bool x.rd] 71)
  have EB := hide (heap_new w (.cells #[.int .i64 x.err, .int .i64 x.num, .int .i64 x.c, .int .i64 x.s, .int .i64 x.v, .int .i64 x.r, .int .i64 x.i, .int .i64 x.o, .int .i64 x.tn, .int .u8 x.tk, .int .i64 x.tsh, .int .i64 x.tr, .int .i64 x.ta, .int .i64 x.tl, .bool x.tv, .slice a x.L.length cap, .int .i64 x.a0, .int .i64 x.a1, .bool x.rd] 71))
  have WR := hide (hW.below hal)
  have BL := hide (hlow.alloc hsz (.cells #[.int .i64 x.err, .int .i64 x.num, .int .i64 x.c, .int .i64 x.s, .int .i64 x.v, .int .i64 x.r, .int .i64 x.i, .int .i64 x.o, .int .i64 x.tn, .int .u8 x.tk, .int .i64 x.tsh, .int .i64 x.tr, .int .i64 x.ta, .int .i64 x.tl, .bool x.tv, .slice a x.L.length cap, .int .i64 x.a0, .int .i64 x.a1, .bool x.rd] 71))
  have HR := hide hx
  have HBQ := hide hB
  have HIN := hide hin
  clear hal hW hlow hx hsz hB hin
  have HC1 := hide (fun W hw => wq_signed w0.heap.size q true T 8 (by omega) x.a0 HR.out.a0 W hw HBQ.out)
  have HC2 := hide (fun W hw => wq_signed w0.heap.size q true (T ++ putL (IntKind.u64.wrap x.a0).toNat 8) 16 (by omega) x.a1 HR.out.a1 W hw HBQ.out)
  go_enter Try.func32, Try.ntmps32
  go_upto_region 12 with (fail)
  generalize w.alloc (.cells #[.int .i64 x.err, .int .i64 x.num, .int .i64 x.c, .int .i64 x.s, .int .i64 x.v, .int .i64 x.r, .int .i64 x.i, .int .i64 x.o, .int .i64 x.tn, .int .u8 x.tk, .int .i64 x.tsh, .int .i64 x.tr, .int .i64 x.ta, .int .i64 x.tl, .bool x.tv, .slice a x.L.length cap, .int .i64 x.a0, .int .i64 x.a1, .bool x.rd] 71) = w1 at *
  generalize w.heap.size = eb at *
  have EB0 := hide (show w1.drew.heap[eb]? = _ from EB.out)
  have WR0 := hide (show WQ w1.drew _ _ _ _ _ from WR.out.below ((Below.refl w1.heap.size w1).drew))
  have BL0 := hide (BL.out.drew)
  clear EB WR BL
  refine wp_region_held_drew (S := (fun W => W.heap[eb]? = some (.cells #[.int .i64 x.err, .int .i64 x.num, .int .i64 x.c, .int .i64 x.s, .int .i64 x.v, .int .i64 x.r, .int .i64 x.i, .int .i64 x.o, .int .i64 x.tn, .int .u8 x.tk, .int .i64 x.tsh, .int .i64 x.tr, .int .i64 x.ta, .int .i64 x.tl, .bool x.tv, .slice a x.L.length cap, .int .i64 x.a0, .int .i64 x.a1, .bool x.rd] 71 (0, 0)))) (by kernel_rfl) (EB0.out) (fun hHeld => ?_)
  generalize w1.drew = v0 at *
  refine wpAnyH_take (i := 0) (oi := { dst := some 39, op := Op.move (Operand.tmp 1), type := 85, pos := "reply.go:55", after := #[], guard := none }) (v := ?_) rfl (by kernel_rfl) (by kernel_rfl) (by kernel_rfl) (fun _ _ _ h => h) (Or.inl ⟨by kernel_rfl, ?_⟩) hHeld ?_
  rotate_left
  · (intro w hSw; (try dsimp only at hSw); have e1 := cell_of_block hSw 1; have e8 := cell_of_block hSw 8; have e16 := cell_of_block hSw 16; have e17 := cell_of_block hSw 17; have e18 := cell_of_block hSw 18; go_simp); try with_reducible rfl
  try simp only [Act.put, List.setIfInBounds_toArray, List.set_cons_zero, List.set_cons_succ]
  refine wpAnyH_take (i := 1) (oi := { dst := some 40, op := Op.fieldAddr 71 (Operand.tmp 3) 4, type := 0, pos := "reply.go:55", after := #[], guard := none }) (v := ?_) rfl (by kernel_rfl) (by kernel_rfl) (by kernel_rfl) (fun _ _ _ h => h) (Or.inl ⟨by kernel_rfl, ?_⟩) hHeld ?_
  rotate_left
  · (intro w hSw; (try dsimp only at hSw); have e1 := cell_of_block hSw 1; have e8 := cell_of_block hSw 8; have e16 := cell_of_block hSw 16; have e17 := cell_of_block hSw 17; have e18 := cell_of_block hSw 18; go_simp); try with_reducible rfl
  try simp only [Act.put, List.setIfInBounds_toArray, List.set_cons_zero, List.set_cons_succ]
  refine wpAnyH_take (i := 2) (oi := { dst := some 41, op := Op.indexAddr 69 (Operand.tmp 40) (Operand.const (Value.int IntKind.i64 0)), type := 0, pos := "reply.go:55", after := #[{ on := 1, ground := Ground.data }], guard := none }) (v := ?_) rfl (by kernel_rfl) (by kernel_rfl) (by kernel_rfl) (fun _ _ _ h => h) (Or.inl ⟨by kernel_rfl, ?_⟩) hHeld ?_
  rotate_left
  · (intro w hSw; (try dsimp only at hSw); have e1 := cell_of_block hSw 1; have e8 := cell_of_block hSw 8; have e16 := cell_of_block hSw 16; have e17 := cell_of_block hSw 17; have e18 := cell_of_block hSw 18; go_simp); try with_reducible rfl
  try simp only [Act.put, List.setIfInBounds_toArray, List.set_cons_zero, List.set_cons_succ]
  refine wpAnyH_take (i := 3) (oi := { dst := some 42, op := Op.load 30 (Operand.tmp 41), type := 30, pos := "reply.go:55", after := #[{ on := 2, ground := Ground.data }], guard := none }) (v := ?_) rfl (by kernel_rfl) (by kernel_rfl) (by kernel_rfl) (fun _ _ _ h => h) (Or.inl ⟨by kernel_rfl, ?_⟩) hHeld ?_
  rotate_left
  · (intro w hSw; (try dsimp only at hSw); have e1 := cell_of_block hSw 1; have e8 := cell_of_block hSw 8; have e16 := cell_of_block hSw 16; have e17 := cell_of_block hSw 17; have e18 := cell_of_block hSw 18; go_simp); try with_reducible rfl
  try simp only [Act.put, List.setIfInBounds_toArray, List.set_cons_zero, List.set_cons_succ]
  refine wpAnyH_take (i := 5) (oi := { dst := some 44, op := Op.fieldAddr 71 (Operand.tmp 3) 4, type := 0, pos := "reply.go:55", after := #[], guard := none }) (v := ?_) rfl (by kernel_rfl) (by kernel_rfl) (by kernel_rfl) (fun _ _ _ h => h) (Or.inl ⟨by kernel_rfl, ?_⟩) hHeld ?_
  rotate_left
  · (intro w hSw; (try dsimp only at hSw); have e1 := cell_of_block hSw 1; have e8 := cell_of_block hSw 8; have e16 := cell_of_block hSw 16; have e17 := cell_of_block hSw 17; have e18 := cell_of_block hSw 18; go_simp); try with_reducible rfl
  try simp only [Act.put, List.setIfInBounds_toArray, List.set_cons_zero, List.set_cons_succ]
  refine wpAnyH_take (i := 6) (oi := { dst := some 45, op := Op.indexAddr 69 (Operand.tmp 44) (Operand.const (Value.int IntKind.i64 1)), type := 0, pos := "reply.go:55", after := #[{ on := 5, ground := Ground.data }], guard := none }) (v := ?_) rfl (by kernel_rfl) (by kernel_rfl) (by kernel_rfl) (fun _ _ _ h => h) (Or.inl ⟨by kernel_rfl, ?_⟩) hHeld ?_
  rotate_left
  · (intro w hSw; (try dsimp only at hSw); have e1 := cell_of_block hSw 1; have e8 := cell_of_block hSw 8; have e16 := cell_of_block hSw 16; have e17 := cell_of_block hSw 17; have e18 := cell_of_block hSw 18; go_simp); try with_reducible rfl
  try simp only [Act.put, List.setIfInBounds_toArray, List.set_cons_zero, List.set_cons_succ]
  refine wpAnyH_take (i := 7) (oi := { dst := some 46, op := Op.load 30 (Operand.tmp 45), type := 30, pos := "reply.go:55", after := #[{ on := 6, ground := Ground.data }], guard := none }) (v := ?_) rfl (by kernel_rfl) (by kernel_rfl) (by kernel_rfl) (fun _ _ _ h => h) (Or.inl ⟨by kernel_rfl, ?_⟩) hHeld ?_
  rotate_left
  · (intro w hSw; (try dsimp only at hSw); have e1 := cell_of_block hSw 1; have e8 := cell_of_block hSw 8; have e16 := cell_of_block hSw 16; have e17 := cell_of_block hSw 17; have e18 := cell_of_block hSw 18; go_simp); try with_reducible rfl
  try simp only [Act.put, List.setIfInBounds_toArray, List.set_cons_zero, List.set_cons_succ]
  refine wpAnyH_ready (rs := [4]) (by kernel_rfl) (by simp) (AllReadyH.cons (o := { dst := some 43, op := Op.call { callee := Callee.value (Operand.func 39), args := #[Operand.tmp 39, Operand.tmp 42], argTypes := #[85, 2] }, type := 85, pos := "reply.go:55", after := #[{ on := 0, ground := Ground.data }, { on := 3, ground := Ground.data }], guard := none }) rfl (fun K hK => ?_) AllReadyH.nil)
  have hOld := hide hHeld
  clear hHeld
  go_simp
  refine (HC1.out _ WR0.out).mono ?_
  rintro e v1 ⟨rfl, hw, hb, hk⟩
  have WR1 := hide hw
  have BL1 := hide (BL0.out.trans hb)
  have EB1 := hide (hk.cells EB0.out (by decide))
  clear hw hb hk
  (try go_wp2_with fail)
  refine hK.out _ _ (EB1.out) (fun hHeld => ?_)
  clear hK K hOld
  try simp only [Act.put, List.setIfInBounds_toArray, List.set_cons_zero, List.set_cons_succ]
  refine wpAnyH_ready (rs := [8]) (by kernel_rfl) (by simp) (AllReadyH.cons (o := { dst := some 47, op := Op.call { callee := Callee.value (Operand.func 39), args := #[Operand.tmp 43, Operand.tmp 46], argTypes := #[85, 2] }, type := 85, pos := "reply.go:55", after := #[{ on := 4, ground := Ground.data }, { on := 7, ground := Ground.data }, { on := 4, ground := Ground.chain }], guard := none }) rfl (fun K hK => ?_) AllReadyH.nil)
  have hOld := hide hHeld
  clear hHeld
  go_simp
  refine (HC2.out _ WR1.out).mono ?_
  rintro e v2 ⟨rfl, hw, hb, hk⟩
  have WR2 := hide hw
  have BL2 := hide (BL1.out.trans hb)
  have EB2 := hide (hk.cells EB1.out (by decide))
  clear hw hb hk
  (try go_wp2_with fail)
  refine hK.out _ _ (EB2.out) (fun hHeld => ?_)
  clear hK K hOld
  try simp only [Act.put, List.setIfInBounds_toArray, List.set_cons_zero, List.set_cons_succ]
  refine wpAnyH_done (by kernel_rfl) ?_ _
  clear hHeld
  go_wp2_with fail
  go_end0
  refine ⟨rfl, ?_, BL2.out⟩
  have := WR2.out.more (show 16 + 8 ≤ 1000 by omega)
  rw [List.append_assoc] at this
  exact this
set_option maxRecDepth 100000 in
set_option maxHeartbeats 1000000 in
theorem rwr14 : RWrites 14 := by
  intro x hx a cap q w0 w hin hlow T hW hB
  unfold rpC
  have hsz : w0.heap.size ≤ w.heap.size := hlow.size
  have hal := (Below.refl w.heap.size w).alloc (Nat.le_refl _) (.cells #[.int .i64 x.err, .int .i64 x.num, .int .i64 x.c, .int .i64 x.s, .int .i64 x.v, .int .i64 x.r, .int .i64 x.i, .int .i64 x.o, .int .i64 x.tn, .int .u8 x.tk, .int .i64 x.tsh, .int .i64 x.tr, .int .i64 x.ta, .int .i64 x.tl, .bool x.tv, .slice a x.L.length cap, .int .i64 x.a0, .int .i64 x.a1, .bool x.rd] 71)
  have EB := hide (heap_new w (.cells #[.int .i64 x.err, .int .i64 x.num, .int .i64 x.c, .int .i64 x.s, .int .i64 x.v, .int .i64 x.r, .int .i64 x.i, .int .i64 x.o, .int .i64 x.tn, .int .u8 x.tk, .int .i64 x.tsh, .int .i64 x.tr, .int .i64 x.ta, .int .i64 x.tl, .bool x.tv, .slice a x.L.length cap, .int .i64 x.a0, .int .i64 x.a1, .bool x.rd] 71))
  have WR := hide (hW.below hal)
  have BL := hide (hlow.alloc hsz (.cells #[.int .i64 x.err, .int .i64 x.num, .int .i64 x.c, .int .i64 x.s, .int .i64 x.v, .int .i64 x.r, .int .i64 x.i, .int .i64 x.o, .int .i64 x.tn, .int .u8 x.tk, .int .i64 x.tsh, .int .i64 x.tr, .int .i64 x.ta, .int .i64 x.tl, .bool x.tv, .slice a x.L.length cap, .int .i64 x.a0, .int .i64 x.a1, .bool x.rd] 71))
  have HR := hide hx
  have HBQ := hide hB
  have HIN := hide hin
  clear hal hW hlow hx hsz hB hin
  have HC1 := hide (fun W hw => wq_number w0.heap.size q true T 8 (by omega) (IntKind.u64.wrap x.num) (wu64 _).1 (wu64 _).2 4 W hw HBQ.out)
  rw [fit4_is _ HR.out.num, put4_is, Bool.true_and] at HC1
  have HC2 := hide (fun W hw => wq_number w0.heap.size q (fit4 x.num) (T ++ putL (wu x.num) 4) 16 (by omega) (IntKind.u64.wrap x.tn) (wu64 _).1 (wu64 _).2 5 W hw HBQ.out)
  rw [show (IntKind.u64.wrap x.tn).toNat = wu x.tn from rfl, fit5_wu _ HR.out.tn, put5_wu] at HC2
  have HC3 := hide (fun W hw => wq_number w0.heap.size q (fit4 x.num && fit5 x.tn) (T ++ putL (wu x.num) 4 ++ putL (wu x.tn) 5) 24 (by omega) (fl1 x.rd : Int) (by omega) (by have := fl1_le x.rd; omega) 1 W hw HBQ.out)
  rw [fitF, putF, Bool.and_true] at HC3
  go_enter Try.func32, Try.ntmps32
  go_upto_region 14 with (fail)
  generalize w.alloc (.cells #[.int .i64 x.err, .int .i64 x.num, .int .i64 x.c, .int .i64 x.s, .int .i64 x.v, .int .i64 x.r, .int .i64 x.i, .int .i64 x.o, .int .i64 x.tn, .int .u8 x.tk, .int .i64 x.tsh, .int .i64 x.tr, .int .i64 x.ta, .int .i64 x.tl, .bool x.tv, .slice a x.L.length cap, .int .i64 x.a0, .int .i64 x.a1, .bool x.rd] 71) = w1 at *
  generalize w.heap.size = eb at *
  have EB0 := hide (show w1.drew.heap[eb]? = _ from EB.out)
  have WR0 := hide (show WQ w1.drew _ _ _ _ _ from WR.out.below ((Below.refl w1.heap.size w1).drew))
  have BL0 := hide (BL.out.drew)
  clear EB WR BL
  refine wp_region_held_drew (S := (fun W => W.heap[eb]? = some (.cells #[.int .i64 x.err, .int .i64 x.num, .int .i64 x.c, .int .i64 x.s, .int .i64 x.v, .int .i64 x.r, .int .i64 x.i, .int .i64 x.o, .int .i64 x.tn, .int .u8 x.tk, .int .i64 x.tsh, .int .i64 x.tr, .int .i64 x.ta, .int .i64 x.tl, .bool x.tv, .slice a x.L.length cap, .int .i64 x.a0, .int .i64 x.a1, .bool x.rd] 71 (0, 0)))) (by kernel_rfl) (EB0.out) (fun hHeld => ?_)
  generalize w1.drew = v0 at *
  refine wpAnyH_take (i := 0) (oi := { dst := some 50, op := Op.move (Operand.tmp 1), type := 85, pos := "reply.go:57", after := #[], guard := none }) (v := ?_) rfl (by kernel_rfl) (by kernel_rfl) (by kernel_rfl) (fun _ _ _ h => h) (Or.inl ⟨by kernel_rfl, ?_⟩) hHeld ?_
  rotate_left
  · (intro w hSw; (try dsimp only at hSw); have e1 := cell_of_block hSw 1; have e8 := cell_of_block hSw 8; have e16 := cell_of_block hSw 16; have e17 := cell_of_block hSw 17; have e18 := cell_of_block hSw 18; go_simp); try with_reducible rfl
  try simp only [Act.put, List.setIfInBounds_toArray, List.set_cons_zero, List.set_cons_succ]
  refine wpAnyH_take (i := 1) (oi := { dst := some 51, op := Op.fieldAddr 71 (Operand.tmp 3) 1, type := 0, pos := "reply.go:57", after := #[], guard := none }) (v := ?_) rfl (by kernel_rfl) (by kernel_rfl) (by kernel_rfl) (fun _ _ _ h => h) (Or.inl ⟨by kernel_rfl, ?_⟩) hHeld ?_
  rotate_left
  · (intro w hSw; (try dsimp only at hSw); have e1 := cell_of_block hSw 1; have e8 := cell_of_block hSw 8; have e16 := cell_of_block hSw 16; have e17 := cell_of_block hSw 17; have e18 := cell_of_block hSw 18; go_simp); try with_reducible rfl
  try simp only [Act.put, List.setIfInBounds_toArray, List.set_cons_zero, List.set_cons_succ]
  refine wpAnyH_take (i := 2) (oi := { dst := some 52, op := Op.load 3 (Operand.tmp 51), type := 3, pos := "reply.go:57", after := #[{ on := 1, ground := Ground.data }], guard := none }) (v := ?_) rfl (by kernel_rfl) (by kernel_rfl) (by kernel_rfl) (fun _ _ _ h => h) (Or.inl ⟨by kernel_rfl, ?_⟩) hHeld ?_
  rotate_left
  · (intro w hSw; (try dsimp only at hSw); have e1 := cell_of_block hSw 1; have e8 := cell_of_block hSw 8; have e16 := cell_of_block hSw 16; have e17 := cell_of_block hSw 17; have e18 := cell_of_block hSw 18; go_simp); try with_reducible rfl
  try simp only [Act.put, List.setIfInBounds_toArray, List.set_cons_zero, List.set_cons_succ]
  refine wpAnyH_take (i := 3) (oi := { dst := some 53, op := Op.convert 3 22 (Operand.tmp 52), type := 22, pos := "reply.go:57", after := #[{ on := 2, ground := Ground.data }], guard := none }) (v := ?_) rfl (by kernel_rfl) (by kernel_rfl) (by kernel_rfl) (fun _ _ _ h => h) (Or.inl ⟨by kernel_rfl, ?_⟩) hHeld ?_
  rotate_left
  · (intro w hSw; (try dsimp only at hSw); have e1 := cell_of_block hSw 1; have e8 := cell_of_block hSw 8; have e16 := cell_of_block hSw 16; have e17 := cell_of_block hSw 17; have e18 := cell_of_block hSw 18; go_simp); try with_reducible rfl
  try simp only [Act.put, List.setIfInBounds_toArray, List.set_cons_zero, List.set_cons_succ]
  refine wpAnyH_take (i := 5) (oi := { dst := some 55, op := Op.fieldAddr 71 (Operand.tmp 3) 3, type := 0, pos := "reply.go:57", after := #[], guard := none }) (v := ?_) rfl (by kernel_rfl) (by kernel_rfl) (by kernel_rfl) (fun _ _ _ h => h) (Or.inl ⟨by kernel_rfl, ?_⟩) hHeld ?_
  rotate_left
  · (intro w hSw; (try dsimp only at hSw); have e1 := cell_of_block hSw 1; have e8 := cell_of_block hSw 8; have e16 := cell_of_block hSw 16; have e17 := cell_of_block hSw 17; have e18 := cell_of_block hSw 18; go_simp); try with_reducible rfl
  try simp only [Act.put, List.setIfInBounds_toArray, List.set_cons_zero, List.set_cons_succ]
  refine wpAnyH_take (i := 6) (oi := { dst := some 56, op := Op.fieldAddr 68 (Operand.tmp 55) 0, type := 0, pos := "reply.go:57", after := #[{ on := 5, ground := Ground.data }], guard := none }) (v := ?_) rfl (by kernel_rfl) (by kernel_rfl) (by kernel_rfl) (fun _ _ _ h => h) (Or.inl ⟨by kernel_rfl, ?_⟩) hHeld ?_
  rotate_left
  · (intro w hSw; (try dsimp only at hSw); have e1 := cell_of_block hSw 1; have e8 := cell_of_block hSw 8; have e16 := cell_of_block hSw 16; have e17 := cell_of_block hSw 17; have e18 := cell_of_block hSw 18; go_simp); try with_reducible rfl
  try simp only [Act.put, List.setIfInBounds_toArray, List.set_cons_zero, List.set_cons_succ]
  refine wpAnyH_take (i := 7) (oi := { dst := some 57, op := Op.load 3 (Operand.tmp 56), type := 3, pos := "reply.go:57", after := #[{ on := 6, ground := Ground.data }], guard := none }) (v := ?_) rfl (by kernel_rfl) (by kernel_rfl) (by kernel_rfl) (fun _ _ _ h => h) (Or.inl ⟨by kernel_rfl, ?_⟩) hHeld ?_
  rotate_left
  · (intro w hSw; (try dsimp only at hSw); have e1 := cell_of_block hSw 1; have e8 := cell_of_block hSw 8; have e16 := cell_of_block hSw 16; have e17 := cell_of_block hSw 17; have e18 := cell_of_block hSw 18; go_simp); try with_reducible rfl
  try simp only [Act.put, List.setIfInBounds_toArray, List.set_cons_zero, List.set_cons_succ]
  refine wpAnyH_take (i := 8) (oi := { dst := some 58, op := Op.convert 3 22 (Operand.tmp 57), type := 22, pos := "reply.go:57", after := #[{ on := 7, ground := Ground.data }], guard := none }) (v := ?_) rfl (by kernel_rfl) (by kernel_rfl) (by kernel_rfl) (fun _ _ _ h => h) (Or.inl ⟨by kernel_rfl, ?_⟩) hHeld ?_
  rotate_left
  · (intro w hSw; (try dsimp only at hSw); have e1 := cell_of_block hSw 1; have e8 := cell_of_block hSw 8; have e16 := cell_of_block hSw 16; have e17 := cell_of_block hSw 17; have e18 := cell_of_block hSw 18; go_simp); try with_reducible rfl
  try simp only [Act.put, List.setIfInBounds_toArray, List.set_cons_zero, List.set_cons_succ]
  refine wpAnyH_take (i := 10) (oi := { dst := some 60, op := Op.fieldAddr 71 (Operand.tmp 3) 5, type := 0, pos := "reply.go:57", after := #[], guard := none }) (v := ?_) rfl (by kernel_rfl) (by kernel_rfl) (by kernel_rfl) (fun _ _ _ h => h) (Or.inl ⟨by kernel_rfl, ?_⟩) hHeld ?_
  rotate_left
  · (intro w hSw; (try dsimp only at hSw); have e1 := cell_of_block hSw 1; have e8 := cell_of_block hSw 8; have e16 := cell_of_block hSw 16; have e17 := cell_of_block hSw 17; have e18 := cell_of_block hSw 18; go_simp); try with_reducible rfl
  try simp only [Act.put, List.setIfInBounds_toArray, List.set_cons_zero, List.set_cons_succ]
  refine wpAnyH_take (i := 11) (oi := { dst := some 61, op := Op.load 4 (Operand.tmp 60), type := 4, pos := "reply.go:57", after := #[{ on := 10, ground := Ground.data }], guard := none }) (v := ?_) rfl (by kernel_rfl) (by kernel_rfl) (by kernel_rfl) (fun _ _ _ h => h) (Or.inl ⟨by kernel_rfl, ?_⟩) hHeld ?_
  rotate_left
  · (intro w hSw; (try dsimp only at hSw); have e1 := cell_of_block hSw 1; have e8 := cell_of_block hSw 8; have e16 := cell_of_block hSw 16; have e17 := cell_of_block hSw 17; have e18 := cell_of_block hSw 18; go_simp); try with_reducible rfl
  try simp only [Act.put, List.setIfInBounds_toArray, List.set_cons_zero, List.set_cons_succ]
  refine wpAnyH_ready (rs := [4]) (by kernel_rfl) (by simp) (AllReadyH.cons (o := { dst := some 54, op := Op.call { callee := Callee.value (Operand.func 18), args := #[Operand.tmp 50, Operand.tmp 53, Operand.const (Value.int IntKind.i64 4)], argTypes := #[85, 22, 3] }, type := 85, pos := "reply.go:57", after := #[{ on := 0, ground := Ground.data }, { on := 3, ground := Ground.data }], guard := none }) rfl (fun K hK => ?_) AllReadyH.nil)
  have hOld := hide hHeld
  clear hHeld
  go_simp
  refine (HC1.out _ WR0.out).mono ?_
  rintro e v1 ⟨rfl, hw, hb, hk⟩
  have WR1 := hide hw
  have BL1 := hide (BL0.out.trans hb)
  have EB1 := hide (hk.cells EB0.out (by decide))
  clear hw hb hk
  (try go_wp2_with fail)
  refine hK.out _ _ (EB1.out) (fun hHeld => ?_)
  clear hK K hOld
  try simp only [Act.put, List.setIfInBounds_toArray, List.set_cons_zero, List.set_cons_succ]
  refine wpAnyH_ready (rs := [9]) (by kernel_rfl) (by simp) (AllReadyH.cons (o := { dst := some 59, op := Op.call { callee := Callee.value (Operand.func 18), args := #[Operand.tmp 54, Operand.tmp 58, Operand.const (Value.int IntKind.i64 5)], argTypes := #[85, 22, 3] }, type := 85, pos := "reply.go:57", after := #[{ on := 4, ground := Ground.data }, { on := 8, ground := Ground.data }, { on := 4, ground := Ground.chain }], guard := none }) rfl (fun K hK => ?_) AllReadyH.nil)
  have hOld := hide hHeld
  clear hHeld
  go_simp
  refine (HC2.out _ WR1.out).mono ?_
  rintro e v2 ⟨rfl, hw, hb, hk⟩
  have WR2 := hide hw
  have BL2 := hide (BL1.out.trans hb)
  have EB2 := hide (hk.cells EB1.out (by decide))
  clear hw hb hk
  (try go_wp2_with fail)
  refine hK.out _ _ (EB2.out) (fun hHeld => ?_)
  clear hK K hOld
  try simp only [Act.put, List.setIfInBounds_toArray, List.set_cons_zero, List.set_cons_succ]
  refine wpAnyH_ready (rs := [12]) (by kernel_rfl) (by simp) (AllReadyH.cons (o := { dst := some 62, op := Op.call { callee := Callee.value (Operand.func 49), args := #[Operand.tmp 61], argTypes := #[4] }, type := 22, pos := "reply.go:57", after := #[{ on := 11, ground := Ground.data }, { on := 9, ground := Ground.chain }], guard := none }) rfl (fun K hK => ?_) AllReadyH.nil)
  have hOld := hide hHeld
  clear hHeld
  go_simp
  refine (flag_any _ _).mono ?_
  rintro e v9 ⟨rfl, rfl⟩
  (try go_wp2_with fail)
  refine hK.out _ _ (EB2.out) (fun hHeld => ?_)
  clear hK K hOld
  try simp only [Act.put, List.setIfInBounds_toArray, List.set_cons_zero, List.set_cons_succ]
  refine wpAnyH_ready (rs := [13]) (by kernel_rfl) (by simp) (AllReadyH.cons (o := { dst := some 63, op := Op.call { callee := Callee.value (Operand.func 18), args := #[Operand.tmp 59, Operand.tmp 62, Operand.const (Value.int IntKind.i64 1)], argTypes := #[85, 22, 3] }, type := 85, pos := "reply.go:57", after := #[{ on := 9, ground := Ground.data }, { on := 12, ground := Ground.data }, { on := 12, ground := Ground.chain }], guard := none }) rfl (fun K hK => ?_) AllReadyH.nil)
  have hOld := hide hHeld
  clear hHeld
  go_simp
  refine (HC3.out _ WR2.out).mono ?_
  rintro e v3 ⟨rfl, hw, hb, hk⟩
  have WR3 := hide hw
  have BL3 := hide (BL2.out.trans hb)
  have EB3 := hide (hk.cells EB2.out (by decide))
  clear hw hb hk
  (try go_wp2_with fail)
  refine hK.out _ _ (EB3.out) (fun hHeld => ?_)
  clear hK K hOld
  try simp only [Act.put, List.setIfInBounds_toArray, List.set_cons_zero, List.set_cons_succ]
  refine wpAnyH_done (by kernel_rfl) ?_ _
  clear hHeld
  go_wp2_with fail
  go_end0
  refine ⟨rfl, ?_, BL3.out⟩
  have := WR3.out.more (show 24 + 8 ≤ 1000 by omega)
  rw [List.append_assoc, List.append_assoc] at this
  exact this
end Go.Proofs.Ytkbikflincjhhaa
