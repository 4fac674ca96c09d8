/-
  Layer 28: replies written: a shift's totals; kinds 12 and 3.
-/
import Derived.Test.YtkbikflincjhhaaRepR

namespace Go.Proofs.Ytkbikflincjhhaa
set_option linter.unusedSimpArgs false
set_option linter.unusedVariables false
open Go.RowKit Go.WideShapes Go.ChangeShapes Go.ChangeAt Go.Deep
theorem idx5_0 (x0 x1 x2 x3 x4 : Value) (w : World) : (Instr.index 132 (.agg #[x0, x1, x2, x3, x4]) (.int .i64 0)).run Try.prog w = .ok x0 w := by kernel_rfl
theorem idx5_1 (x0 x1 x2 x3 x4 : Value) (w : World) : (Instr.index 132 (.agg #[x0, x1, x2, x3, x4]) (.int .i64 1)).run Try.prog w = .ok x1 w := by kernel_rfl
theorem idx5_2 (x0 x1 x2 x3 x4 : Value) (w : World) : (Instr.index 132 (.agg #[x0, x1, x2, x3, x4]) (.int .i64 2)).run Try.prog w = .ok x2 w := by kernel_rfl
theorem idx5_3 (x0 x1 x2 x3 x4 : Value) (w : World) : (Instr.index 132 (.agg #[x0, x1, x2, x3, x4]) (.int .i64 3)).run Try.prog w = .ok x3 w := by kernel_rfl
theorem idx5_4 (x0 x1 x2 x3 x4 : Value) (w : World) : (Instr.index 132 (.agg #[x0, x1, x2, x3, x4]) (.int .i64 4)).run Try.prog w = .ok x4 w := by kernel_rfl
def totK (T : List UInt8) (a1 a2 a3 a4 a5 : Int) : Nat → List UInt8
  | 0 => T
  | 1 => T ++ putL (IntKind.u64.wrap a1).toNat 8
  | 2 => T ++ putL (IntKind.u64.wrap a1).toNat 8 ++ putL (IntKind.u64.wrap a2).toNat 8
  | 3 => T ++ putL (IntKind.u64.wrap a1).toNat 8 ++ putL (IntKind.u64.wrap a2).toNat 8 ++ putL (IntKind.u64.wrap a3).toNat 8
  | 4 => T ++ putL (IntKind.u64.wrap a1).toNat 8 ++ putL (IntKind.u64.wrap a2).toNat 8 ++ putL (IntKind.u64.wrap a3).toNat 8 ++ putL (IntKind.u64.wrap a4).toNat 8
  | _ => T ++ putL (IntKind.u64.wrap a1).toNat 8 ++ putL (IntKind.u64.wrap a2).toNat 8 ++ putL (IntKind.u64.wrap a3).toNat 8 ++ putL (IntKind.u64.wrap a4).toNat 8 ++ putL (IntKind.u64.wrap a5).toNat 8
set_option maxRecDepth 100000 in
set_option maxHeartbeats 1000000 in
theorem wrTot_any (c a1 a2 a3 a4 a5 : Int) (hc : inR c) (h1 : inR a1) (h2 : inR a2) (h3 : inR a3) (h4 : inR a4) (h5 : inR a5) (B q : Nat) (ok : Bool) (T : List UInt8) (m : Nat) (hm : m ≤ 500) (w : World) (h : WQ w B q ok T m) (hB : B ≤ q) (hBw : B ≤ w.heap.size) :
    Calls Try.prog 48 #[.pointer (some ⟨q, 0, none⟩), .agg #[.int .i64 c, .int .i64 a1, .int .i64 a2, .int .i64 a3, .int .i64 a4, .int .i64 a5]] w (WQEnd B q (ok && fit4 c) (totK (T ++ putL (wu c) 4) a1 a2 a3 a4 a5 5) (m + 48) w) := by
  have hal := (Below.refl w.heap.size w).alloc (Nat.le_refl _) (.cells #[.int .i64 c, .int .i64 a1, .int .i64 a2, .int .i64 a3, .int .i64 a4, .int .i64 a5] 65)
  have EB := hide (heap_new w (.cells #[.int .i64 c, .int .i64 a1, .int .i64 a2, .int .i64 a3, .int .i64 a4, .int .i64 a5] 65))
  have WR := hide (h.below hal)
  have BL := hide ((Below.refl B w).alloc hBw (.cells #[.int .i64 c, .int .i64 a1, .int .i64 a2, .int .i64 a3, .int .i64 a4, .int .i64 a5] 65))
  have HC1 := hide (fun W hw => wq_number B q ok T m (by omega) (IntKind.u64.wrap c) (wu64 _).1 (wu64 _).2 4 W hw hB)
  rw [fit4_is _ hc, put4_is] at HC1
  have HS := hide (fun Tk mk hmk n hn W hw => wq_signed B q (ok && fit4 c) Tk mk hmk n hn W hw hB)
  have HA := hide (And.intro h1 (And.intro h2 (And.intro h3 (And.intro h4 h5))))
  clear hal h hc h1 h2 h3 h4 h5
  generalize T ++ putL (wu c) 4 = T0 at *
  generalize (ok && fit4 c) = ok0 at *
  go_enter Try.func48, Try.ntmps48
  go_upto_region 1 with (fail)
  generalize w.alloc (.cells #[.int .i64 c, .int .i64 a1, .int .i64 a2, .int .i64 a3, .int .i64 a4, .int .i64 a5] 65) = w1 at *
  generalize w.heap.size = eb at *
  have e0 := cell_of_block EB.out 0
  go_wp2_with fail
  refine (HC1.out _ WR.out).mono ?_
  rintro e w2 ⟨rfl, hw, hb, hk⟩
  have WR2 := hide hw
  have BL2 := hide (BL.out.trans hb)
  have EB2 := hide (hk.cells EB.out (by decide))
  clear hw hb hk e0 EB WR BL HC1
  have e1 := cell_of_block EB2.out 1
  have e2 := cell_of_block EB2.out 2
  have e3 := cell_of_block EB2.out 3
  have e4 := cell_of_block EB2.out 4
  have e5 := cell_of_block EB2.out 5
  go_wp2_with fail
  have i0 := fun W => idx5_0 (.int .i64 a1) (.int .i64 a2) (.int .i64 a3) (.int .i64 a4) (.int .i64 a5) W
  have i1 := fun W => idx5_1 (.int .i64 a1) (.int .i64 a2) (.int .i64 a3) (.int .i64 a4) (.int .i64 a5) W
  have i2 := fun W => idx5_2 (.int .i64 a1) (.int .i64 a2) (.int .i64 a3) (.int .i64 a4) (.int .i64 a5) W
  have i3 := fun W => idx5_3 (.int .i64 a1) (.int .i64 a2) (.int .i64 a3) (.int .i64 a4) (.int .i64 a5) W
  have i4 := fun W => idx5_4 (.int .i64 a1) (.int .i64 a2) (.int .i64 a3) (.int .i64 a4) (.int .i64 a5) W
  go_loopw [22] (fun i W => ∃ k : Nat, k ≤ 5 ∧ i = .int .i64 k ∧ WQ W B q ok0 (totK T0 a1 a2 a3 a4 a5 k) (m + 8 + 8 * k) ∧ Below B w W) (fun i _ => 5 - (intOf i).toNat)
  case atStart => exact ⟨0, by omega, rfl, WR2.out, BL2.out⟩
  case round =>
    obtain ⟨k, hk, rfl, hw, hb⟩ := hrel
    have WR := hide hw
    have BR := hide hb
    clear hw hb WR2 BL2
    obtain rfl | rfl | rfl | rfl | rfl | rfl : k = 0 ∨ k = 1 ∨ k = 2 ∨ k = 3 ∨ k = 4 ∨ k = 5 := by omega
    iterate 5
      · go_wp2_with fail
        refine (HS.out _ _ (by omega) _ (by first | exact HA.out.1 | exact HA.out.2.1 | exact HA.out.2.2.1 | exact HA.out.2.2.2.1 | exact HA.out.2.2.2.2) _ WR.out).mono ?_
        rintro e w3 ⟨rfl, hw, hb, -⟩
        have WR3 := hide hw
        have BL3 := hide (BR.out.trans hb)
        clear hw hb
        go_wp2_with fail
        go_roundw
        case rel => first | exact ⟨1, by omega, by go_num, WR3.out.more (by omega), BL3.out⟩ | exact ⟨2, by omega, by go_num, WR3.out.more (by omega), BL3.out⟩ | exact ⟨3, by omega, by go_num, WR3.out.more (by omega), BL3.out⟩ | exact ⟨4, by omega, by go_num, WR3.out.more (by omega), BL3.out⟩ | exact ⟨5, by omega, by go_num, WR3.out.more (by omega), BL3.out⟩
        case measure => simp [intOf]
    · go_wp2_with fail
      go_end0
      exact ⟨rfl, WR.out, BR.out⟩
set_option maxRecDepth 100000 in
set_option maxHeartbeats 1000000 in
theorem rwr12 : RWrites 12 := by
  intro x hx a cap q w0 w hin hlow T hW hB
  unfold rpC
  have hsz : w0.heap.size ≤ w.heap.size := hlow.size
  have hal := (Below.refl w.heap.size w).alloc (Nat.le_refl _) (.cells #[.int .i64 x.err, .int .i64 x.num, .int .i64 x.c, .int .i64 x.s, .int .i64 x.v, .int .i64 x.r, .int .i64 x.i, .int .i64 x.o, .int .i64 x.tn, .int .u8 x.tk, .int .i64 x.tsh, .int .i64 x.tr, .int .i64 x.ta, .int .i64 x.tl, .bool x.tv, .slice a x.L.length cap, .int .i64 x.a0, .int .i64 x.a1, .bool x.rd] 71)
  have EB := hide (heap_new w (.cells #[.int .i64 x.err, .int .i64 x.num, .int .i64 x.c, .int .i64 x.s, .int .i64 x.v, .int .i64 x.r, .int .i64 x.i, .int .i64 x.o, .int .i64 x.tn, .int .u8 x.tk, .int .i64 x.tsh, .int .i64 x.tr, .int .i64 x.ta, .int .i64 x.tl, .bool x.tv, .slice a x.L.length cap, .int .i64 x.a0, .int .i64 x.a1, .bool x.rd] 71))
  have WR := hide (hW.below hal)
  have BL := hide (hlow.alloc hsz (.cells #[.int .i64 x.err, .int .i64 x.num, .int .i64 x.c, .int .i64 x.s, .int .i64 x.v, .int .i64 x.r, .int .i64 x.i, .int .i64 x.o, .int .i64 x.tn, .int .u8 x.tk, .int .i64 x.tsh, .int .i64 x.tr, .int .i64 x.ta, .int .i64 x.tl, .bool x.tv, .slice a x.L.length cap, .int .i64 x.a0, .int .i64 x.a1, .bool x.rd] 71))
  have HR := hide hx
  have HBQ := hide hB
  have HIN := hide hin
  clear hal hW hlow hx hsz hB hin
  have HC1 := hide (fun W hw hbw => wrTot_any x.c x.s x.v x.r x.i x.o HR.out.c HR.out.s HR.out.v HR.out.r HR.out.i HR.out.o w0.heap.size q true T 8 (by omega) W hw HBQ.out hbw)
  go_enter Try.func32, Try.ntmps32
  go_upto_region 10 with (fail)
  generalize w.alloc (.cells #[.int .i64 x.err, .int .i64 x.num, .int .i64 x.c, .int .i64 x.s, .int .i64 x.v, .int .i64 x.r, .int .i64 x.i, .int .i64 x.o, .int .i64 x.tn, .int .u8 x.tk, .int .i64 x.tsh, .int .i64 x.tr, .int .i64 x.ta, .int .i64 x.tl, .bool x.tv, .slice a x.L.length cap, .int .i64 x.a0, .int .i64 x.a1, .bool x.rd] 71) = w1 at *
  generalize w.heap.size = eb at *
  have e2 := cell_of_block EB.out 2
  have e3 := cell_of_block EB.out 3
  have e4 := cell_of_block EB.out 4
  have e5 := cell_of_block EB.out 5
  have e6 := cell_of_block EB.out 6
  have e7 := cell_of_block EB.out 7
  go_wp2_with fail
  refine (HC1.out _ WR.out BL.out.size).mono ?_
  rintro e w2 ⟨rfl, hw, hb⟩
  have WR2 := hide hw
  have BL2 := hide (BL.out.trans hb)
  clear hw hb e2 e3 e4 e5 e6 e7
  go_wp2_with fail
  go_end0
  refine ⟨rfl, ?_, BL2.out⟩
  have := WR2.out.more (show 8 + 48 ≤ 1000 by omega)
  simp only [totK, List.append_assoc, Bool.true_and] at this
  exact this
set_option maxRecDepth 100000 in
set_option maxHeartbeats 1000000 in
theorem rwr3 : RWrites 3 := by
  intro x hx a cap q w0 w hin hlow T hW hB
  unfold rpC
  have hsz : w0.heap.size ≤ w.heap.size := hlow.size
  have hal := (Below.refl w.heap.size w).alloc (Nat.le_refl _) (.cells #[.int .i64 x.err, .int .i64 x.num, .int .i64 x.c, .int .i64 x.s, .int .i64 x.v, .int .i64 x.r, .int .i64 x.i, .int .i64 x.o, .int .i64 x.tn, .int .u8 x.tk, .int .i64 x.tsh, .int .i64 x.tr, .int .i64 x.ta, .int .i64 x.tl, .bool x.tv, .slice a x.L.length cap, .int .i64 x.a0, .int .i64 x.a1, .bool x.rd] 71)
  have EB := hide (heap_new w (.cells #[.int .i64 x.err, .int .i64 x.num, .int .i64 x.c, .int .i64 x.s, .int .i64 x.v, .int .i64 x.r, .int .i64 x.i, .int .i64 x.o, .int .i64 x.tn, .int .u8 x.tk, .int .i64 x.tsh, .int .i64 x.tr, .int .i64 x.ta, .int .i64 x.tl, .bool x.tv, .slice a x.L.length cap, .int .i64 x.a0, .int .i64 x.a1, .bool x.rd] 71))
  have WR := hide (hW.below hal)
  have BL := hide (hlow.alloc hsz (.cells #[.int .i64 x.err, .int .i64 x.num, .int .i64 x.c, .int .i64 x.s, .int .i64 x.v, .int .i64 x.r, .int .i64 x.i, .int .i64 x.o, .int .i64 x.tn, .int .u8 x.tk, .int .i64 x.tsh, .int .i64 x.tr, .int .i64 x.ta, .int .i64 x.tl, .bool x.tv, .slice a x.L.length cap, .int .i64 x.a0, .int .i64 x.a1, .bool x.rd] 71))
  have HR := hide hx
  have HBQ := hide hB
  have HIN := hide hin
  clear hal hW hlow hx hsz hB hin
  have HC0 := hide (fun W hw => wq_number w0.heap.size q true T 8 (by omega) (IntKind.u64.wrap x.num) (wu64 _).1 (wu64 _).2 4 W hw HBQ.out)
  rw [fit4_is _ HR.out.num, put4_is, Bool.true_and] at HC0
  have HC1 := hide (fun W hw hbw => wrTot_any x.c x.s x.v x.r x.i x.o HR.out.c HR.out.s HR.out.v HR.out.r HR.out.i HR.out.o w0.heap.size q (fit4 x.num) (T ++ putL (wu x.num) 4) 16 (by omega) W hw HBQ.out hbw)
  go_enter Try.func32, Try.ntmps32
  go_upto_region 1 with (fail)
  generalize w.alloc (.cells #[.int .i64 x.err, .int .i64 x.num, .int .i64 x.c, .int .i64 x.s, .int .i64 x.v, .int .i64 x.r, .int .i64 x.i, .int .i64 x.o, .int .i64 x.tn, .int .u8 x.tk, .int .i64 x.tsh, .int .i64 x.tr, .int .i64 x.ta, .int .i64 x.tl, .bool x.tv, .slice a x.L.length cap, .int .i64 x.a0, .int .i64 x.a1, .bool x.rd] 71) = w1 at *
  generalize w.heap.size = eb at *
  have e1 := cell_of_block EB.out 1
  go_wp2_with fail
  refine (HC0.out _ WR.out).mono ?_
  rintro e w3 ⟨rfl, hw, hb, hk⟩
  have WR := hide hw
  have BL := hide (BL.out.trans hb)
  have EB := hide (hk.cells EB.out (by decide))
  clear hw hb hk e1
  have e2 := cell_of_block EB.out 2
  have e3 := cell_of_block EB.out 3
  have e4 := cell_of_block EB.out 4
  have e5 := cell_of_block EB.out 5
  have e6 := cell_of_block EB.out 6
  have e7 := cell_of_block EB.out 7
  go_wp2_with fail
  refine (HC1.out _ WR.out BL.out.size).mono ?_
  rintro e w2 ⟨rfl, hw, hb⟩
  have WR2 := hide hw
  have BL2 := hide (BL.out.trans hb)
  clear hw hb e2 e3 e4 e5 e6 e7
  go_wp2_with fail
  go_end0
  refine ⟨rfl, ?_, BL2.out⟩
  have := WR2.out.more (show 16 + 48 ≤ 1000 by omega)
  simp only [totK, List.append_assoc] at this
  exact this
end Go.Proofs.Ytkbikflincjhhaa
