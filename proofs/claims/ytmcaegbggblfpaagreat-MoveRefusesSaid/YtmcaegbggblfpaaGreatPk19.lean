/-
  Lemmas and contracts of this project's own, put together: MvN.
-/
import Derived.Test.YtmcaegbggblfpaaGreatPk18
namespace Go.Proofs.YtmcaegbggblfpaaGreat
set_option linter.unusedSimpArgs false
set_option linter.unusedVariables false
open Go.RowKit Go.WideShapes Go.ChangeShapes Go.ChangeAt Go.Deep W

set_option maxRecDepth 100000 in
set_option maxHeartbeats 4000000 in
theorem clear16_none (x0 x1 x2 x3 : Option Addr) (h : mrightB x0 x1 x2 x3 = false) (n : Int) (w : World) : Calls Tryz.prog 10 #[.agg #[.pointer x0, .pointer x1, .pointer x2, .pointer x3], .int .i64 n, .map none] w fun e w' => e = .returned (.int .i64 1) ∧ Below w.heap.size w w' := by
  have HA := hide (fun W => ask_none x0 x1 x2 x3 h n W)
  clear h
  have B1 := hide ((Below.refl w.heap.size w).alloc (Nat.le_refl _) (.cells #[.pointer x0, .pointer x1, .pointer x2, .pointer x3] 29))
  have T1 := hide (heap_new w (.cells #[.pointer x0, .pointer x1, .pointer x2, .pointer x3] 29))
  go_enter Tryz.func10, Tryz.ntmps10
  go_upto_region 1 with (fail)
  generalize w.alloc (.cells #[.pointer x0, .pointer x1, .pointer x2, .pointer x3] 29) = w1 at *
  go_wp2_with (refine rw_load rfl 29 (.tmp 3) rfl w.heap.size rfl 29 #[.pointer x0, .pointer x1, .pointer x2, .pointer x3] (0, 0) _ T1.out Tryz.underlying29 rfl (by kernel_rfl) ?_)
  refine (HA.out _).mono ?_
  rintro e w2 ⟨rfl, hb⟩
  have B2 := hide (B1.out.trans (hb.mono B1.out.size))
  clear hb
  go_wp2_with fail
  go_ret
  exact ⟨rfl, B2.out⟩
set_option maxRecDepth 100000 in
set_option maxHeartbeats 4000000 in
theorem free16_none (x0 x1 x2 x3 : Option Addr) (h : mrightB x0 x1 x2 x3 = false) (n : Int) (w : World) : Calls Tryz.prog 14 #[.agg #[.pointer x0, .pointer x1, .pointer x2, .pointer x3], .int .i64 n] w fun e w' => e = .returned (.int .i64 1) ∧ Below w.heap.size w w' := by
  have HA := hide (fun W => ask_none x0 x1 x2 x3 h n W)
  clear h
  have B1 := hide ((Below.refl w.heap.size w).alloc (Nat.le_refl _) (.cells #[.pointer x0, .pointer x1, .pointer x2, .pointer x3] 29))
  have T1 := hide (heap_new w (.cells #[.pointer x0, .pointer x1, .pointer x2, .pointer x3] 29))
  go_enter Tryz.func14, Tryz.ntmps14
  go_upto_region 1 with (fail)
  generalize w.alloc (.cells #[.pointer x0, .pointer x1, .pointer x2, .pointer x3] 29) = w1 at *
  go_wp2_with (refine rw_load rfl 29 (.tmp 2) rfl w.heap.size rfl 29 #[.pointer x0, .pointer x1, .pointer x2, .pointer x3] (0, 0) _ T1.out Tryz.underlying29 rfl (by kernel_rfl) ?_)
  refine (HA.out _).mono ?_
  rintro e w2 ⟨rfl, hb⟩
  have B2 := hide (B1.out.trans (hb.mono B1.out.size))
  clear hb
  go_wp2_with fail
  go_ret
  exact ⟨rfl, B2.out⟩
set_option maxRecDepth 100000 in
set_option maxHeartbeats 4000000 in
theorem clear16_bad {B0 nb pg sz : Nat} {A : MvA} {X : MvS} {N : Int} (hok : HOk nb pg sz N X) (n : Int) (hn : n < 0 ∨ (nb : Int) ≤ n) (w : World) (h : MvAt w B0 A nb pg X) : Calls Tryz.prog 10 #[.agg #[.pointer (some ⟨A.d, 0, none⟩), .pointer (some ⟨A.pp, 0, none⟩), .pointer (some ⟨A.sb, 0, none⟩), .pointer (some ⟨A.mp, 0, none⟩)], .int .i64 n, .map none] w fun e w' => e = .returned (.int .i64 3) ∧ Below w.heap.size w w' := by
  have HA := hide (fun W (hW : MvAt W B0 A nb pg X) => ask_bad (b := A.b) ⟨A.pp, 0, none⟩ ⟨A.sb, 0, none⟩ ⟨A.mp, 0, none⟩ n (by rw [hok.dims.1]; exact hn) W hW.st.drive)
  have X1 := hide (h.below ((Below.refl w.heap.size w).alloc (Nat.le_refl _) (.cells #[.pointer (some ⟨A.d, 0, none⟩), .pointer (some ⟨A.pp, 0, none⟩), .pointer (some ⟨A.sb, 0, none⟩), .pointer (some ⟨A.mp, 0, none⟩)] 29)))
  clear h hok hn
  have B1 := hide ((Below.refl w.heap.size w).alloc (Nat.le_refl _) (.cells #[.pointer (some ⟨A.d, 0, none⟩), .pointer (some ⟨A.pp, 0, none⟩), .pointer (some ⟨A.sb, 0, none⟩), .pointer (some ⟨A.mp, 0, none⟩)] 29))
  have T1 := hide (heap_new w (.cells #[.pointer (some ⟨A.d, 0, none⟩), .pointer (some ⟨A.pp, 0, none⟩), .pointer (some ⟨A.sb, 0, none⟩), .pointer (some ⟨A.mp, 0, none⟩)] 29))
  go_enter Tryz.func10, Tryz.ntmps10
  go_upto_region 1 with (fail)
  generalize w.alloc (.cells #[.pointer (some ⟨A.d, 0, none⟩), .pointer (some ⟨A.pp, 0, none⟩), .pointer (some ⟨A.sb, 0, none⟩), .pointer (some ⟨A.mp, 0, none⟩)] 29) = w1 at *
  go_wp2_with (refine rw_load rfl 29 (.tmp 3) rfl w.heap.size rfl 29 #[.pointer (some ⟨A.d, 0, none⟩), .pointer (some ⟨A.pp, 0, none⟩), .pointer (some ⟨A.sb, 0, none⟩), .pointer (some ⟨A.mp, 0, none⟩)] (0, 0) _ T1.out Tryz.underlying29 rfl (by kernel_rfl) ?_)
  refine (HA.out _ X1.out).mono ?_
  rintro e w2 ⟨rfl, hb⟩
  have B2 := hide (B1.out.trans (hb.mono B1.out.size))
  clear hb
  go_wp2_with fail
  go_ret
  exact ⟨rfl, B2.out⟩
set_option maxRecDepth 100000 in
set_option maxHeartbeats 4000000 in
theorem free16_bad {B0 nb pg sz : Nat} {A : MvA} {X : MvS} {N : Int} (hok : HOk nb pg sz N X) (n : Int) (hn : n < 0 ∨ (nb : Int) ≤ n) (w : World) (h : MvAt w B0 A nb pg X) : Calls Tryz.prog 14 #[.agg #[.pointer (some ⟨A.d, 0, none⟩), .pointer (some ⟨A.pp, 0, none⟩), .pointer (some ⟨A.sb, 0, none⟩), .pointer (some ⟨A.mp, 0, none⟩)], .int .i64 n] w fun e w' => e = .returned (.int .i64 3) ∧ Below w.heap.size w w' := by
  have HA := hide (fun W (hW : MvAt W B0 A nb pg X) => ask_bad (b := A.b) ⟨A.pp, 0, none⟩ ⟨A.sb, 0, none⟩ ⟨A.mp, 0, none⟩ n (by rw [hok.dims.1]; exact hn) W hW.st.drive)
  have X1 := hide (h.below ((Below.refl w.heap.size w).alloc (Nat.le_refl _) (.cells #[.pointer (some ⟨A.d, 0, none⟩), .pointer (some ⟨A.pp, 0, none⟩), .pointer (some ⟨A.sb, 0, none⟩), .pointer (some ⟨A.mp, 0, none⟩)] 29)))
  clear h hok hn
  have B1 := hide ((Below.refl w.heap.size w).alloc (Nat.le_refl _) (.cells #[.pointer (some ⟨A.d, 0, none⟩), .pointer (some ⟨A.pp, 0, none⟩), .pointer (some ⟨A.sb, 0, none⟩), .pointer (some ⟨A.mp, 0, none⟩)] 29))
  have T1 := hide (heap_new w (.cells #[.pointer (some ⟨A.d, 0, none⟩), .pointer (some ⟨A.pp, 0, none⟩), .pointer (some ⟨A.sb, 0, none⟩), .pointer (some ⟨A.mp, 0, none⟩)] 29))
  go_enter Tryz.func14, Tryz.ntmps14
  go_upto_region 1 with (fail)
  generalize w.alloc (.cells #[.pointer (some ⟨A.d, 0, none⟩), .pointer (some ⟨A.pp, 0, none⟩), .pointer (some ⟨A.sb, 0, none⟩), .pointer (some ⟨A.mp, 0, none⟩)] 29) = w1 at *
  go_wp2_with (refine rw_load rfl 29 (.tmp 2) rfl w.heap.size rfl 29 #[.pointer (some ⟨A.d, 0, none⟩), .pointer (some ⟨A.pp, 0, none⟩), .pointer (some ⟨A.sb, 0, none⟩), .pointer (some ⟨A.mp, 0, none⟩)] (0, 0) _ T1.out Tryz.underlying29 rfl (by kernel_rfl) ?_)
  refine (HA.out _ X1.out).mono ?_
  rintro e w2 ⟨rfl, hb⟩
  have B2 := hide (B1.out.trans (hb.mono B1.out.size))
  clear hb
  go_wp2_with fail
  go_ret
  exact ⟨rfl, B2.out⟩
end Go.Proofs.YtmcaegbggblfpaaGreat
