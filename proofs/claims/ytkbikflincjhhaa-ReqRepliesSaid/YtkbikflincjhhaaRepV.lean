/-
  Layer 28: replies written: kind 11.
-/
import Derived.Test.YtkbikflincjhhaaRepY

namespace Go.Proofs.Ytkbikflincjhhaa
set_option linter.unusedSimpArgs false
set_option linter.unusedVariables false
open Go.RowKit Go.WideShapes Go.ChangeShapes Go.ChangeAt Go.Deep
set_option maxRecDepth 100000 in
set_option maxHeartbeats 1000000 in
theorem wrTx_any (x : RpM) (hx : RpOk x) (a : Option Addr) (cap q : Nat) (w0 w : World) (hin : LnIn w0 a x.L) (hlow : Below w0.heap.size w0 w) (T : List UInt8) (hW : WQ w w0.heap.size q true T 8) (hB : w0.heap.size ≤ q) :
    Calls Try.prog 47 #[.pointer (some ⟨q, 0, none⟩), .agg #[.int .i64 x.tn, .int .u8 x.tk, .int .i64 x.tsh, .int .i64 x.tr, .int .i64 x.ta, .int .i64 x.tl, .bool x.tv, .slice a x.L.length cap]] w (RWrIs w0 q 11 x T) := by
  have hsz : w0.heap.size ≤ w.heap.size := hlow.size
  have hal := (Below.refl w.heap.size w).alloc (Nat.le_refl _) (.cells #[.int .i64 x.tn, .int .u8 x.tk, .int .i64 x.tsh, .int .i64 x.tr, .int .i64 x.ta, .int .i64 x.tl, .bool x.tv, .slice a x.L.length cap] 68)
  have EB := hide (heap_new w (.cells #[.int .i64 x.tn, .int .u8 x.tk, .int .i64 x.tsh, .int .i64 x.tr, .int .i64 x.ta, .int .i64 x.tl, .bool x.tv, .slice a x.L.length cap] 68))
  have WR := hide (hW.below hal)
  have BL := hide (hlow.alloc hsz (.cells #[.int .i64 x.tn, .int .u8 x.tk, .int .i64 x.tsh, .int .i64 x.tr, .int .i64 x.ta, .int .i64 x.tl, .bool x.tv, .slice a x.L.length cap] 68))
  have HR := hide hx
  have HBQ := hide hB
  have HIN := hide hin
  have htk := hx.tk
  have hw8 : IntKind.u64.wrap x.tk = x.tk := by rw [IntKind.wrap_u64]; omega
  have hf8 : fitsB x.tk.toNat 1 = true := by
    unfold fitsB
    exact decide_eq_true ⟨by decide, by decide, by show x.tk.toNat < 256 ^ 1; omega⟩
  have HC1 := hide (fun W hw => wq_number w0.heap.size q true T 8 (by omega) x.tk htk.1 (by omega) 1 W hw HBQ.out)
  rw [hf8, put1_is, Bool.true_and] at HC1
  have HC2 := hide (fun W hw => wq_number w0.heap.size q true (T ++ putL x.tk.toNat 1) 16 (by omega) (IntKind.u64.wrap x.tsh) (wu64 _).1 (wu64 _).2 4 W hw HBQ.out)
  rw [fit4_is _ HR.out.tsh, put4_is, Bool.true_and] at HC2
  have HC3 := hide (fun W hw => wq_number w0.heap.size q (fit4 x.tsh) (T ++ putL x.tk.toNat 1 ++ putL (wu x.tsh) 4) 24 (by omega) (IntKind.u64.wrap x.tr) (wu64 _).1 (wu64 _).2 4 W hw HBQ.out)
  rw [fit4_is _ HR.out.tr, put4_is] at HC3
  have HC4 := hide (fun W hw => wq_signed w0.heap.size q (fit4 x.tsh && fit4 x.tr) (T ++ putL x.tk.toNat 1 ++ putL (wu x.tsh) 4 ++ putL (wu x.tr) 4) 32 (by omega) x.ta HR.out.ta W hw HBQ.out)
  have HC5 := hide (fun W hw => wq_signed w0.heap.size q (fit4 x.tsh && fit4 x.tr) (T ++ putL x.tk.toNat 1 ++ putL (wu x.tsh) 4 ++ putL (wu x.tr) 4 ++ putL (IntKind.u64.wrap x.ta).toNat 8) 40 (by omega) x.tl HR.out.tl W hw HBQ.out)
  have HC6 := hide (fun W hw => wq_number w0.heap.size q (fit4 x.tsh && fit4 x.tr) (T ++ putL x.tk.toNat 1 ++ putL (wu x.tsh) 4 ++ putL (wu x.tr) 4 ++ putL (IntKind.u64.wrap x.ta).toNat 8 ++ putL (IntKind.u64.wrap x.tl).toNat 8) 48 (by omega) (fl1 x.tv : Int) (by omega) (by have := fl1_le x.tv; omega) 1 W hw HBQ.out)
  rw [fitF, putF, Bool.and_true] at HC6
  have HC7 := hide (fun W hlow hw => wq_post x.L HR.out.few HR.out.L a cap q w0 W HIN.out hlow (fit4 x.tsh && fit4 x.tr) (T ++ putL x.tk.toNat 1 ++ putL (wu x.tsh) 4 ++ putL (wu x.tr) 4 ++ putL (IntKind.u64.wrap x.ta).toNat 8 ++ putL (IntKind.u64.wrap x.tl).toNat 8 ++ putL (fl1 x.tv) 1) 56 (by omega) hw HBQ.out)
  clear hal hW hlow hx hsz hB hin hf8
  go_enter Try.func47, Try.ntmps47
  go_upto_region 1 with (fail)
  generalize w.alloc (.cells #[.int .i64 x.tn, .int .u8 x.tk, .int .i64 x.tsh, .int .i64 x.tr, .int .i64 x.ta, .int .i64 x.tl, .bool x.tv, .slice a x.L.length cap] 68) = w1 at *
  generalize w.heap.size = eb at *
  have EB0 := hide (show w1.drew.heap[eb]? = _ from EB.out)
  have WR0 := hide (show WQ w1.drew _ _ _ _ _ from WR.out.below ((Below.refl w1.heap.size w1).drew))
  have BL0 := hide (BL.out.drew)
  clear EB WR BL
  refine wp_region_held_drew (S := (fun W => W.heap[eb]? = some (.cells #[.int .i64 x.tn, .int .u8 x.tk, .int .i64 x.tsh, .int .i64 x.tr, .int .i64 x.ta, .int .i64 x.tl, .bool x.tv, .slice a x.L.length cap] 68 (0, 0)))) (by kernel_rfl) (EB0.out) (fun hHeld => ?_)
  generalize w1.drew = v0 at *
  refine wpAnyH_take (i := 0) (oi := { dst := some 4, op := Op.move (Operand.tmp 0), type := 85, pos := "reply.go:68", after := #[], guard := none }) (v := ?_) rfl (by kernel_rfl) (by kernel_rfl) (by kernel_rfl) (fun _ _ _ h => h) (Or.inl ⟨by kernel_rfl, ?_⟩) hHeld ?_
  rotate_left
  · (intro w hSw; (try dsimp only at hSw); have e1 := cell_of_block hSw 1; have e2 := cell_of_block hSw 2; have e3 := cell_of_block hSw 3; have e4 := cell_of_block hSw 4; have e5 := cell_of_block hSw 5; have e6 := cell_of_block hSw 6; have e7 := cell_of_block hSw 7; go_simp); try with_reducible rfl
  try simp only [Act.put, List.setIfInBounds_toArray, List.set_cons_zero, List.set_cons_succ]
  refine wpAnyH_take (i := 1) (oi := { dst := some 5, op := Op.fieldAddr 68 (Operand.tmp 3) 1, type := 0, pos := "reply.go:68", after := #[], guard := none }) (v := ?_) rfl (by kernel_rfl) (by kernel_rfl) (by kernel_rfl) (fun _ _ _ h => h) (Or.inl ⟨by kernel_rfl, ?_⟩) hHeld ?_
  rotate_left
  · (intro w hSw; (try dsimp only at hSw); have e1 := cell_of_block hSw 1; have e2 := cell_of_block hSw 2; have e3 := cell_of_block hSw 3; have e4 := cell_of_block hSw 4; have e5 := cell_of_block hSw 5; have e6 := cell_of_block hSw 6; have e7 := cell_of_block hSw 7; go_simp); try with_reducible rfl
  try simp only [Act.put, List.setIfInBounds_toArray, List.set_cons_zero, List.set_cons_succ]
  refine wpAnyH_take (i := 2) (oi := { dst := some 6, op := Op.load 66 (Operand.tmp 5), type := 66, pos := "reply.go:68", after := #[{ on := 1, ground := Ground.data }], guard := none }) (v := ?_) rfl (by kernel_rfl) (by kernel_rfl) (by kernel_rfl) (fun _ _ _ h => h) (Or.inl ⟨by kernel_rfl, ?_⟩) hHeld ?_
  rotate_left
  · (intro w hSw; (try dsimp only at hSw); have e1 := cell_of_block hSw 1; have e2 := cell_of_block hSw 2; have e3 := cell_of_block hSw 3; have e4 := cell_of_block hSw 4; have e5 := cell_of_block hSw 5; have e6 := cell_of_block hSw 6; have e7 := cell_of_block hSw 7; go_simp); try with_reducible rfl
  try simp only [Act.put, List.setIfInBounds_toArray, List.set_cons_zero, List.set_cons_succ]
  refine wpAnyH_take (i := 3) (oi := { dst := some 7, op := Op.convert 66 22 (Operand.tmp 6), type := 22, pos := "reply.go:68", after := #[{ on := 2, ground := Ground.data }], guard := none }) (v := ?_) rfl (by kernel_rfl) (by kernel_rfl) (by kernel_rfl) (fun _ _ _ h => h) (Or.inl ⟨by kernel_rfl, ?_⟩) hHeld ?_
  rotate_left
  · (intro w hSw; (try dsimp only at hSw); have e1 := cell_of_block hSw 1; have e2 := cell_of_block hSw 2; have e3 := cell_of_block hSw 3; have e4 := cell_of_block hSw 4; have e5 := cell_of_block hSw 5; have e6 := cell_of_block hSw 6; have e7 := cell_of_block hSw 7; go_simp); try with_reducible rfl
  try simp only [Act.put, List.setIfInBounds_toArray, List.set_cons_zero, List.set_cons_succ]
  refine wpAnyH_take (i := 5) (oi := { dst := some 9, op := Op.fieldAddr 68 (Operand.tmp 3) 2, type := 0, pos := "reply.go:68", after := #[], guard := none }) (v := ?_) rfl (by kernel_rfl) (by kernel_rfl) (by kernel_rfl) (fun _ _ _ h => h) (Or.inl ⟨by kernel_rfl, ?_⟩) hHeld ?_
  rotate_left
  · (intro w hSw; (try dsimp only at hSw); have e1 := cell_of_block hSw 1; have e2 := cell_of_block hSw 2; have e3 := cell_of_block hSw 3; have e4 := cell_of_block hSw 4; have e5 := cell_of_block hSw 5; have e6 := cell_of_block hSw 6; have e7 := cell_of_block hSw 7; go_simp); try with_reducible rfl
  try simp only [Act.put, List.setIfInBounds_toArray, List.set_cons_zero, List.set_cons_succ]
  refine wpAnyH_take (i := 6) (oi := { dst := some 10, op := Op.load 3 (Operand.tmp 9), type := 3, pos := "reply.go:68", after := #[{ on := 5, ground := Ground.data }], guard := none }) (v := ?_) rfl (by kernel_rfl) (by kernel_rfl) (by kernel_rfl) (fun _ _ _ h => h) (Or.inl ⟨by kernel_rfl, ?_⟩) hHeld ?_
  rotate_left
  · (intro w hSw; (try dsimp only at hSw); have e1 := cell_of_block hSw 1; have e2 := cell_of_block hSw 2; have e3 := cell_of_block hSw 3; have e4 := cell_of_block hSw 4; have e5 := cell_of_block hSw 5; have e6 := cell_of_block hSw 6; have e7 := cell_of_block hSw 7; go_simp); try with_reducible rfl
  try simp only [Act.put, List.setIfInBounds_toArray, List.set_cons_zero, List.set_cons_succ]
  refine wpAnyH_take (i := 7) (oi := { dst := some 11, op := Op.convert 3 22 (Operand.tmp 10), type := 22, pos := "reply.go:68", after := #[{ on := 6, ground := Ground.data }], guard := none }) (v := ?_) rfl (by kernel_rfl) (by kernel_rfl) (by kernel_rfl) (fun _ _ _ h => h) (Or.inl ⟨by kernel_rfl, ?_⟩) hHeld ?_
  rotate_left
  · (intro w hSw; (try dsimp only at hSw); have e1 := cell_of_block hSw 1; have e2 := cell_of_block hSw 2; have e3 := cell_of_block hSw 3; have e4 := cell_of_block hSw 4; have e5 := cell_of_block hSw 5; have e6 := cell_of_block hSw 6; have e7 := cell_of_block hSw 7; go_simp); try with_reducible rfl
  try simp only [Act.put, List.setIfInBounds_toArray, List.set_cons_zero, List.set_cons_succ]
  refine wpAnyH_take (i := 9) (oi := { dst := some 13, op := Op.fieldAddr 68 (Operand.tmp 3) 3, type := 0, pos := "reply.go:68", after := #[], guard := none }) (v := ?_) rfl (by kernel_rfl) (by kernel_rfl) (by kernel_rfl) (fun _ _ _ h => h) (Or.inl ⟨by kernel_rfl, ?_⟩) hHeld ?_
  rotate_left
  · (intro w hSw; (try dsimp only at hSw); have e1 := cell_of_block hSw 1; have e2 := cell_of_block hSw 2; have e3 := cell_of_block hSw 3; have e4 := cell_of_block hSw 4; have e5 := cell_of_block hSw 5; have e6 := cell_of_block hSw 6; have e7 := cell_of_block hSw 7; go_simp); try with_reducible rfl
  try simp only [Act.put, List.setIfInBounds_toArray, List.set_cons_zero, List.set_cons_succ]
  refine wpAnyH_take (i := 10) (oi := { dst := some 14, op := Op.load 3 (Operand.tmp 13), type := 3, pos := "reply.go:68", after := #[{ on := 9, ground := Ground.data }], guard := none }) (v := ?_) rfl (by kernel_rfl) (by kernel_rfl) (by kernel_rfl) (fun _ _ _ h => h) (Or.inl ⟨by kernel_rfl, ?_⟩) hHeld ?_
  rotate_left
  · (intro w hSw; (try dsimp only at hSw); have e1 := cell_of_block hSw 1; have e2 := cell_of_block hSw 2; have e3 := cell_of_block hSw 3; have e4 := cell_of_block hSw 4; have e5 := cell_of_block hSw 5; have e6 := cell_of_block hSw 6; have e7 := cell_of_block hSw 7; go_simp); try with_reducible rfl
  try simp only [Act.put, List.setIfInBounds_toArray, List.set_cons_zero, List.set_cons_succ]
  refine wpAnyH_take (i := 11) (oi := { dst := some 15, op := Op.convert 3 22 (Operand.tmp 14), type := 22, pos := "reply.go:68", after := #[{ on := 10, ground := Ground.data }], guard := none }) (v := ?_) rfl (by kernel_rfl) (by kernel_rfl) (by kernel_rfl) (fun _ _ _ h => h) (Or.inl ⟨by kernel_rfl, ?_⟩) hHeld ?_
  rotate_left
  · (intro w hSw; (try dsimp only at hSw); have e1 := cell_of_block hSw 1; have e2 := cell_of_block hSw 2; have e3 := cell_of_block hSw 3; have e4 := cell_of_block hSw 4; have e5 := cell_of_block hSw 5; have e6 := cell_of_block hSw 6; have e7 := cell_of_block hSw 7; go_simp); try with_reducible rfl
  try simp only [Act.put, List.setIfInBounds_toArray, List.set_cons_zero, List.set_cons_succ]
  refine wpAnyH_ready (rs := [4]) (by kernel_rfl) (by simp) (AllReadyH.cons (o := { dst := some 8, op := Op.call { callee := Callee.value (Operand.func 18), args := #[Operand.tmp 4, Operand.tmp 7, Operand.const (Value.int IntKind.i64 1)], argTypes := #[85, 22, 3] }, type := 85, pos := "reply.go:68", after := #[{ on := 0, ground := Ground.data }, { on := 3, ground := Ground.data }], guard := none }) rfl (fun K hK => ?_) AllReadyH.nil)
  have hOld := hide hHeld
  clear hHeld
  go_simp
  refine (HC1.out _ WR0.out).mono ?_
  rintro e v1 ⟨rfl, hw, hb, hk⟩
  have WR1 := hide hw
  have BL1 := hide (BL0.out.trans hb)
  have EB1 := hide (hk.cells EB0.out (by decide))
  clear hw hb hk
  (try go_wp2_with fail)
  refine hK.out _ _ (EB1.out) (fun hHeld => ?_)
  clear hK K hOld
  try simp only [Act.put, List.setIfInBounds_toArray, List.set_cons_zero, List.set_cons_succ]
  refine wpAnyH_ready (rs := [8]) (by kernel_rfl) (by simp) (AllReadyH.cons (o := { dst := some 12, op := Op.call { callee := Callee.value (Operand.func 18), args := #[Operand.tmp 8, Operand.tmp 11, Operand.const (Value.int IntKind.i64 4)], argTypes := #[85, 22, 3] }, type := 85, pos := "reply.go:68", after := #[{ on := 4, ground := Ground.data }, { on := 7, ground := Ground.data }, { on := 4, ground := Ground.chain }], guard := none }) rfl (fun K hK => ?_) AllReadyH.nil)
  have hOld := hide hHeld
  clear hHeld
  go_simp
  refine (HC2.out _ WR1.out).mono ?_
  rintro e v2 ⟨rfl, hw, hb, hk⟩
  have WR2 := hide hw
  have BL2 := hide (BL1.out.trans hb)
  have EB2 := hide (hk.cells EB1.out (by decide))
  clear hw hb hk
  (try go_wp2_with fail)
  refine hK.out _ _ (EB2.out) (fun hHeld => ?_)
  clear hK K hOld
  try simp only [Act.put, List.setIfInBounds_toArray, List.set_cons_zero, List.set_cons_succ]
  refine wpAnyH_ready (rs := [12]) (by kernel_rfl) (by simp) (AllReadyH.cons (o := { dst := some 16, op := Op.call { callee := Callee.value (Operand.func 18), args := #[Operand.tmp 12, Operand.tmp 15, Operand.const (Value.int IntKind.i64 4)], argTypes := #[85, 22, 3] }, type := 85, pos := "reply.go:68", after := #[{ on := 8, ground := Ground.data }, { on := 11, ground := Ground.data }, { on := 8, ground := Ground.chain }], guard := none }) rfl (fun K hK => ?_) AllReadyH.nil)
  have hOld := hide hHeld
  clear hHeld
  go_simp
  refine (HC3.out _ WR2.out).mono ?_
  rintro e v3 ⟨rfl, hw, hb, hk⟩
  have WR3 := hide hw
  have BL3 := hide (BL2.out.trans hb)
  have EB3 := hide (hk.cells EB2.out (by decide))
  clear hw hb hk
  (try go_wp2_with fail)
  refine hK.out _ _ (EB3.out) (fun hHeld => ?_)
  clear hK K hOld
  try simp only [Act.put, List.setIfInBounds_toArray, List.set_cons_zero, List.set_cons_succ]
  refine wpAnyH_done (by kernel_rfl) ?_ _
  clear hHeld
  have EB4 := hide (show v3.drew.heap[eb]? = _ from EB3.out)
  have WR4 := hide (show WQ v3.drew _ _ _ _ _ from WR3.out.below ((Below.refl v3.heap.size v3).drew))
  have BL4 := hide (BL3.out.drew)
  go_upto_region 2 with (fail)
  refine wp_region_held_drew (S := (fun W => W.heap[eb]? = some (.cells #[.int .i64 x.tn, .int .u8 x.tk, .int .i64 x.tsh, .int .i64 x.tr, .int .i64 x.ta, .int .i64 x.tl, .bool x.tv, .slice a x.L.length cap] 68 (0, 0)))) (by kernel_rfl) (EB4.out) (fun hHeld => ?_)
  generalize v3.drew = v4 at *
  refine wpAnyH_take (i := 0) (oi := { dst := some 17, op := Op.move (Operand.tmp 0), type := 85, pos := "reply.go:69", after := #[], guard := none }) (v := ?_) rfl (by kernel_rfl) (by kernel_rfl) (by kernel_rfl) (fun _ _ _ h => h) (Or.inl ⟨by kernel_rfl, ?_⟩) hHeld ?_
  rotate_left
  · (intro w hSw; (try dsimp only at hSw); have e1 := cell_of_block hSw 1; have e2 := cell_of_block hSw 2; have e3 := cell_of_block hSw 3; have e4 := cell_of_block hSw 4; have e5 := cell_of_block hSw 5; have e6 := cell_of_block hSw 6; have e7 := cell_of_block hSw 7; go_simp); try with_reducible rfl
  try simp only [Act.put, List.setIfInBounds_toArray, List.set_cons_zero, List.set_cons_succ]
  refine wpAnyH_take (i := 1) (oi := { dst := some 18, op := Op.fieldAddr 68 (Operand.tmp 3) 4, type := 0, pos := "reply.go:69", after := #[], guard := none }) (v := ?_) rfl (by kernel_rfl) (by kernel_rfl) (by kernel_rfl) (fun _ _ _ h => h) (Or.inl ⟨by kernel_rfl, ?_⟩) hHeld ?_
  rotate_left
  · (intro w hSw; (try dsimp only at hSw); have e1 := cell_of_block hSw 1; have e2 := cell_of_block hSw 2; have e3 := cell_of_block hSw 3; have e4 := cell_of_block hSw 4; have e5 := cell_of_block hSw 5; have e6 := cell_of_block hSw 6; have e7 := cell_of_block hSw 7; go_simp); try with_reducible rfl
  try simp only [Act.put, List.setIfInBounds_toArray, List.set_cons_zero, List.set_cons_succ]
  refine wpAnyH_take (i := 2) (oi := { dst := some 19, op := Op.load 30 (Operand.tmp 18), type := 30, pos := "reply.go:69", after := #[{ on := 1, ground := Ground.data }], guard := none }) (v := ?_) rfl (by kernel_rfl) (by kernel_rfl) (by kernel_rfl) (fun _ _ _ h => h) (Or.inl ⟨by kernel_rfl, ?_⟩) hHeld ?_
  rotate_left
  · (intro w hSw; (try dsimp only at hSw); have e1 := cell_of_block hSw 1; have e2 := cell_of_block hSw 2; have e3 := cell_of_block hSw 3; have e4 := cell_of_block hSw 4; have e5 := cell_of_block hSw 5; have e6 := cell_of_block hSw 6; have e7 := cell_of_block hSw 7; go_simp); try with_reducible rfl
  try simp only [Act.put, List.setIfInBounds_toArray, List.set_cons_zero, List.set_cons_succ]
  refine wpAnyH_take (i := 4) (oi := { dst := some 21, op := Op.fieldAddr 68 (Operand.tmp 3) 5, type := 0, pos := "reply.go:69", after := #[], guard := none }) (v := ?_) rfl (by kernel_rfl) (by kernel_rfl) (by kernel_rfl) (fun _ _ _ h => h) (Or.inl ⟨by kernel_rfl, ?_⟩) hHeld ?_
  rotate_left
  · (intro w hSw; (try dsimp only at hSw); have e1 := cell_of_block hSw 1; have e2 := cell_of_block hSw 2; have e3 := cell_of_block hSw 3; have e4 := cell_of_block hSw 4; have e5 := cell_of_block hSw 5; have e6 := cell_of_block hSw 6; have e7 := cell_of_block hSw 7; go_simp); try with_reducible rfl
  try simp only [Act.put, List.setIfInBounds_toArray, List.set_cons_zero, List.set_cons_succ]
  refine wpAnyH_take (i := 5) (oi := { dst := some 22, op := Op.load 30 (Operand.tmp 21), type := 30, pos := "reply.go:69", after := #[{ on := 4, ground := Ground.data }], guard := none }) (v := ?_) rfl (by kernel_rfl) (by kernel_rfl) (by kernel_rfl) (fun _ _ _ h => h) (Or.inl ⟨by kernel_rfl, ?_⟩) hHeld ?_
  rotate_left
  · (intro w hSw; (try dsimp only at hSw); have e1 := cell_of_block hSw 1; have e2 := cell_of_block hSw 2; have e3 := cell_of_block hSw 3; have e4 := cell_of_block hSw 4; have e5 := cell_of_block hSw 5; have e6 := cell_of_block hSw 6; have e7 := cell_of_block hSw 7; go_simp); try with_reducible rfl
  try simp only [Act.put, List.setIfInBounds_toArray, List.set_cons_zero, List.set_cons_succ]
  refine wpAnyH_take (i := 7) (oi := { dst := some 24, op := Op.fieldAddr 68 (Operand.tmp 3) 6, type := 0, pos := "reply.go:69", after := #[], guard := none }) (v := ?_) rfl (by kernel_rfl) (by kernel_rfl) (by kernel_rfl) (fun _ _ _ h => h) (Or.inl ⟨by kernel_rfl, ?_⟩) hHeld ?_
  rotate_left
  · (intro w hSw; (try dsimp only at hSw); have e1 := cell_of_block hSw 1; have e2 := cell_of_block hSw 2; have e3 := cell_of_block hSw 3; have e4 := cell_of_block hSw 4; have e5 := cell_of_block hSw 5; have e6 := cell_of_block hSw 6; have e7 := cell_of_block hSw 7; go_simp); try with_reducible rfl
  try simp only [Act.put, List.setIfInBounds_toArray, List.set_cons_zero, List.set_cons_succ]
  refine wpAnyH_take (i := 8) (oi := { dst := some 25, op := Op.load 4 (Operand.tmp 24), type := 4, pos := "reply.go:69", after := #[{ on := 7, ground := Ground.data }], guard := none }) (v := ?_) rfl (by kernel_rfl) (by kernel_rfl) (by kernel_rfl) (fun _ _ _ h => h) (Or.inl ⟨by kernel_rfl, ?_⟩) hHeld ?_
  rotate_left
  · (intro w hSw; (try dsimp only at hSw); have e1 := cell_of_block hSw 1; have e2 := cell_of_block hSw 2; have e3 := cell_of_block hSw 3; have e4 := cell_of_block hSw 4; have e5 := cell_of_block hSw 5; have e6 := cell_of_block hSw 6; have e7 := cell_of_block hSw 7; go_simp); try with_reducible rfl
  try simp only [Act.put, List.setIfInBounds_toArray, List.set_cons_zero, List.set_cons_succ]
  refine wpAnyH_ready (rs := [3]) (by kernel_rfl) (by simp) (AllReadyH.cons (o := { dst := some 20, op := Op.call { callee := Callee.value (Operand.func 39), args := #[Operand.tmp 17, Operand.tmp 19], argTypes := #[85, 2] }, type := 85, pos := "reply.go:69", after := #[{ on := 0, ground := Ground.data }, { on := 2, ground := Ground.data }], guard := none }) rfl (fun K hK => ?_) AllReadyH.nil)
  have hOld := hide hHeld
  clear hHeld
  go_simp
  refine (HC4.out _ WR4.out).mono ?_
  rintro e v5 ⟨rfl, hw, hb, hk⟩
  have WR5 := hide hw
  have BL5 := hide (BL4.out.trans hb)
  have EB5 := hide (hk.cells EB4.out (by decide))
  clear hw hb hk
  (try go_wp2_with fail)
  refine hK.out _ _ (EB5.out) (fun hHeld => ?_)
  clear hK K hOld
  try simp only [Act.put, List.setIfInBounds_toArray, List.set_cons_zero, List.set_cons_succ]
  refine wpAnyH_ready (rs := [6]) (by kernel_rfl) (by simp) (AllReadyH.cons (o := { dst := some 23, op := Op.call { callee := Callee.value (Operand.func 39), args := #[Operand.tmp 20, Operand.tmp 22], argTypes := #[85, 2] }, type := 85, pos := "reply.go:69", after := #[{ on := 3, ground := Ground.data }, { on := 5, ground := Ground.data }, { on := 3, ground := Ground.chain }], guard := none }) rfl (fun K hK => ?_) AllReadyH.nil)
  have hOld := hide hHeld
  clear hHeld
  go_simp
  refine (HC5.out _ WR5.out).mono ?_
  rintro e v6 ⟨rfl, hw, hb, hk⟩
  have WR6 := hide hw
  have BL6 := hide (BL5.out.trans hb)
  have EB6 := hide (hk.cells EB5.out (by decide))
  clear hw hb hk
  (try go_wp2_with fail)
  refine hK.out _ _ (EB6.out) (fun hHeld => ?_)
  clear hK K hOld
  try simp only [Act.put, List.setIfInBounds_toArray, List.set_cons_zero, List.set_cons_succ]
  refine wpAnyH_ready (rs := [9]) (by kernel_rfl) (by simp) (AllReadyH.cons (o := { dst := some 26, op := Op.call { callee := Callee.value (Operand.func 49), args := #[Operand.tmp 25], argTypes := #[4] }, type := 22, pos := "reply.go:69", after := #[{ on := 8, ground := Ground.data }, { on := 6, ground := Ground.chain }], guard := none }) rfl (fun K hK => ?_) AllReadyH.nil)
  have hOld := hide hHeld
  clear hHeld
  go_simp
  refine (flag_any _ _).mono ?_
  rintro e v9 ⟨rfl, rfl⟩
  (try go_wp2_with fail)
  refine hK.out _ _ (EB6.out) (fun hHeld => ?_)
  clear hK K hOld
  try simp only [Act.put, List.setIfInBounds_toArray, List.set_cons_zero, List.set_cons_succ]
  refine wpAnyH_ready (rs := [10]) (by kernel_rfl) (by simp) (AllReadyH.cons (o := { dst := some 27, op := Op.call { callee := Callee.value (Operand.func 18), args := #[Operand.tmp 23, Operand.tmp 26, Operand.const (Value.int IntKind.i64 1)], argTypes := #[85, 22, 3] }, type := 85, pos := "reply.go:69", after := #[{ on := 6, ground := Ground.data }, { on := 9, ground := Ground.data }, { on := 9, ground := Ground.chain }], guard := none }) rfl (fun K hK => ?_) AllReadyH.nil)
  have hOld := hide hHeld
  clear hHeld
  go_simp
  refine (HC6.out _ WR6.out).mono ?_
  rintro e v7 ⟨rfl, hw, hb, hk⟩
  have WR7 := hide hw
  have BL7 := hide (BL6.out.trans hb)
  have EB7 := hide (hk.cells EB6.out (by decide))
  clear hw hb hk
  (try go_wp2_with fail)
  refine hK.out _ _ (EB7.out) (fun hHeld => ?_)
  clear hK K hOld
  try simp only [Act.put, List.setIfInBounds_toArray, List.set_cons_zero, List.set_cons_succ]
  refine wpAnyH_done (by kernel_rfl) ?_ _
  clear hHeld
  have e7 := cell_of_block EB7.out 7
  go_wp2_with fail
  refine (HC7.out _ BL7.out WR7.out).mono ?_
  rintro e v8 ⟨rfl, hw, hb⟩
  have WR8 := hide hw
  have BL8 := hide hb
  clear hw hb e7
  go_wp2_with fail
  go_end0
  refine ⟨rfl, ?_, BL8.out⟩
  have := WR8.out.more (show 56 + 400 ≤ 1000 by omega)
  simp only [List.append_assoc] at this
  exact this
set_option maxRecDepth 100000 in
set_option maxHeartbeats 1000000 in
theorem rwr11 : RWrites 11 := by
  intro x hx a cap q w0 w hin hlow T hW hB
  unfold rpC
  have hsz : w0.heap.size ≤ w.heap.size := hlow.size
  have hal := (Below.refl w.heap.size w).alloc (Nat.le_refl _) (.cells #[.int .i64 x.err, .int .i64 x.num, .int .i64 x.c, .int .i64 x.s, .int .i64 x.v, .int .i64 x.r, .int .i64 x.i, .int .i64 x.o, .int .i64 x.tn, .int .u8 x.tk, .int .i64 x.tsh, .int .i64 x.tr, .int .i64 x.ta, .int .i64 x.tl, .bool x.tv, .slice a x.L.length cap, .int .i64 x.a0, .int .i64 x.a1, .bool x.rd] 71)
  have EB := hide (heap_new w (.cells #[.int .i64 x.err, .int .i64 x.num, .int .i64 x.c, .int .i64 x.s, .int .i64 x.v, .int .i64 x.r, .int .i64 x.i, .int .i64 x.o, .int .i64 x.tn, .int .u8 x.tk, .int .i64 x.tsh, .int .i64 x.tr, .int .i64 x.ta, .int .i64 x.tl, .bool x.tv, .slice a x.L.length cap, .int .i64 x.a0, .int .i64 x.a1, .bool x.rd] 71))
  have WR := hide (hW.below hal)
  have BL := hide (hlow.alloc hsz (.cells #[.int .i64 x.err, .int .i64 x.num, .int .i64 x.c, .int .i64 x.s, .int .i64 x.v, .int .i64 x.r, .int .i64 x.i, .int .i64 x.o, .int .i64 x.tn, .int .u8 x.tk, .int .i64 x.tsh, .int .i64 x.tr, .int .i64 x.ta, .int .i64 x.tl, .bool x.tv, .slice a x.L.length cap, .int .i64 x.a0, .int .i64 x.a1, .bool x.rd] 71))
  have HR := hide hx
  have HBQ := hide hB
  have HIN := hide hin
  clear hal hW hlow hx hsz hB hin
  have HC1 := hide (fun W hlow hw => wrTx_any x HR.out a cap q w0 W HIN.out hlow T hw HBQ.out)
  go_enter Try.func32, Try.ntmps32
  go_upto_region 8 with (fail)
  generalize w.alloc (.cells #[.int .i64 x.err, .int .i64 x.num, .int .i64 x.c, .int .i64 x.s, .int .i64 x.v, .int .i64 x.r, .int .i64 x.i, .int .i64 x.o, .int .i64 x.tn, .int .u8 x.tk, .int .i64 x.tsh, .int .i64 x.tr, .int .i64 x.ta, .int .i64 x.tl, .bool x.tv, .slice a x.L.length cap, .int .i64 x.a0, .int .i64 x.a1, .bool x.rd] 71) = w1 at *
  generalize w.heap.size = eb at *
  have e8 := cell_of_block EB.out 8
  have e9 := cell_of_block EB.out 9
  have e10 := cell_of_block EB.out 10
  have e11 := cell_of_block EB.out 11
  have e12 := cell_of_block EB.out 12
  have e13 := cell_of_block EB.out 13
  have e14 := cell_of_block EB.out 14
  have e15 := cell_of_block EB.out 15
  go_wp2_with fail
  refine (HC1.out _ BL.out WR.out).mono ?_
  rintro e w2 ⟨rfl, hw, hb⟩
  have WR2 := hide hw
  have BL2 := hide hb
  clear hw hb e8 e9 e10 e11 e12 e13 e14 e15
  go_wp2_with fail
  go_end0
  exact ⟨rfl, WR2.out, BL2.out⟩
end Go.Proofs.Ytkbikflincjhhaa
