import Derived.Test.YtfdgfeohmkdnoaaRSh
import Derived.Test.YtfdgfeohmkdnoaaMShW
import Derived.Test.YtfdgfeohmkdnoaaCurW
/-
  Layer 26: the document's total, Text by contract.
-/
--import Derived.Test.Zdbg
namespace Go.Proofs.Ytfdgfeohmkdnoaa
set_option linter.unusedSimpArgs false
set_option linter.unusedVariables false
open Go.RowKit Go.WideShapes Go.ChangeShapes Go.ChangeAt Go.Deep

set_option maxRecDepth 100000 in
set_option maxHeartbeats 4000000 in
theorem rtotF_any (xc xs xv xr xi xo : Int) (hc : 0 ≤ xc ∧ xc ≤ 4294967295) (w : World) :
    Calls Try.prog 38 #[totV ⟨xc, xs, xv, xr, xi, xo⟩] w fun e w' => ∃ g c, e = .returned (.slice (some ⟨g, 0, none⟩) 6 c) ∧ w'.ownsRow w.heap.size 98 4 (.slice (some ⟨g, 0, none⟩) 6 c) 6 ((totF ⟨xc, xs, xv, xr, xi, xo⟩).flatMap fc) ∧ Below w.heap.size w w' := by
  obtain ⟨i0, hi, hz0, hz1, hz2⟩ := info_parts (show (Try.prog.info? 98).map (fun i => (i.zero, i.size, i.bytes)) = some (some (.agg #[.int .i64 0, .int .i64 0, .int .u64 0, .string ⟨#[]⟩]), 4, 40) by kernel_rfl)
  have HI := hide hi
  have HZ0 := hide hz0
  have HZ1 := hide hz1
  have HZ2 := hide hz2
  clear hi hz0 hz1 hz2
  have hu : IntKind.u64.wrap xc = xc := by rw [IntKind.wrap_u64]; omega
  unfold totV
  dsimp only
  go_enter Try.func38, Try.ntmps38
  go_upto_region 2 with (fail)
  clear hu
  obtain ⟨w2, hw2⟩ : ∃ w2, w2 = (w.alloc (.cells #[.int .i64 xc, .int .i64 xs, .int .i64 xv, .int .i64 xr, .int .i64 xi, .int .i64 xo] 29)).alloc (.cells #[.int .i64 0, .int .i64 4, .int .u64 xc, .string ⟨#[]⟩] 98) := ⟨_, rfl⟩
  rw [← hw2]
  have EB := hide (show w2.heap[w.heap.size]? = some (.cells #[.int .i64 xc, .int .i64 xs, .int .i64 xv, .int .i64 xr, .int .i64 xi, .int .i64 xo] 29 (0, 0)) by rw [hw2, heap_old _ _ _ (by simp), heap_new])
  have XF := hide (show w2.heap[w.heap.size + 1]? = some (.cells #[.int .i64 0, .int .i64 4, .int .u64 xc, .string ⟨#[]⟩] 98 (0, 0)) by rw [hw2]; exact heap_alloc2_new w _ _)
  have BB := hide (show Below w.heap.size w w2 by rw [hw2]; exact ((Below.refl w.heap.size w).alloc (Nat.le_refl _) _).alloc (by simp) _)
  clear hw2
  obtain ⟨eb, heb⟩ : ∃ k, w.heap.size = k := ⟨_, rfl⟩
  obtain ⟨fb, hfb⟩ : ∃ k, eb + 1 = k := ⟨_, rfl⟩
  rw [heb] at EB XF ⊢
  rw [hfb] at XF ⊢
  have HFB := hide (show w.heap.size ≤ fb by omega)
  clear heb hfb
  have OW0 := hide (show w2.ownsRow w.heap.size 98 4 (.slice (some ⟨fb, 0, none⟩) 1 1) 1 ((totFk ⟨xc, xs, xv, xr, xi, xo⟩ 0).flatMap fc) from ⟨rfl, .inr ⟨fb, 1, _, rfl, HFB.out, XF.out, Nat.le_refl _, by decide, rfl, rfl⟩⟩)
  clear XF
  go_wp2_with fail
  go_loopw [3, 4] (fun l i W => ∃ (k g c4 : Nat), k ≤ 5 ∧ l = .slice (some ⟨g, 0, none⟩) (k + 1) c4 ∧ i = .int .i64 k ∧ W.heap[eb]? = some (.cells #[.int .i64 xc, .int .i64 xs, .int .i64 xv, .int .i64 xr, .int .i64 xi, .int .i64 xo] 29 (0, 0)) ∧ W.ownsRow w.heap.size 98 4 (.slice (some ⟨g, 0, none⟩) (k + 1) c4) (k + 1) ((totFk ⟨xc, xs, xv, xr, xi, xo⟩ k).flatMap fc) ∧ Below w.heap.size w W) (fun _ i _ => 5 - (intOf i).toNat)
  case atStart => exact ⟨0, fb, 1, by omega, rfl, rfl, EB.out, OW0.out, BB.out⟩
  case round =>
    obtain ⟨k, g, c4, hk, rfl, rfl, he, ho, hb⟩ := hrel
    have EBR := hide he
    have OW := hide ho
    have BR := hide hb
    clear he ho hb EB OW0 BB
    obtain rfl | rfl | rfl | rfl | rfl | rfl : k = 0 ∨ k = 1 ∨ k = 2 ∨ k = 3 ∨ k = 4 ∨ k = 5 := by omega
    · have e1 := cell_of_block EBR.out 1
      have hal := (Below.refl wr.heap.size wr).alloc (Nat.le_refl _) (.cells #[.int .i64 1, .int .i64 0, .int .u64 (IntKind.u64.wrap xs), .string ⟨#[]⟩] 98)
      have XN := hide (cells_new (heap_new wr (.cells ([.int .i64 1, .int .i64 0, .int .u64 (IntKind.u64.wrap xs), .string ⟨#[]⟩] : List Value).toArray 98)))
      have OA := hide (owns_below OW.out hal)
      have BA := hide (BR.out.trans (hal.mono BR.out.size))
      have hsz9 : w.heap.size ≤ (wr.alloc (.cells #[.int .i64 1, .int .i64 0, .int .u64 (IntKind.u64.wrap xs), .string ⟨#[]⟩] 98)).heap.size := BA.out.size
      have EBA := hide ((hal.block _ (heap_lt EBR.out)).trans EBR.out)
      clear hal
      go_wp2_with (at_builtin; refine wpList_append_own2 _ rfl _ _ 99 rfl w.heap.size 98 i0 (.agg #[.int .i64 0, .int .i64 0, .int .u64 0, .string ⟨#[]⟩]) 4 40 Try.underlying99 HI.out HZ0.out HZ1.out HZ2.out rfl (by decide) (.slice (some ⟨g, 0, none⟩) 1 c4) 1 ((totFk ⟨xc, xs, xv, xr, xi, xo⟩ 0).flatMap fc) rfl OA.out ⟨wr.heap.size, 0, none⟩ 1 1 (by decide) [.int .i64 1, .int .i64 0, .int .u64 (IntKind.u64.wrap xs), .string ⟨#[]⟩] rfl rfl XN.out (by simp [Value.oneCell']) (by unfold maxLen; omega) (by omega) hsz9 ?_; intro g3 c3' w' ho hgr hnil; have HO6 := hide ho; have HGR := hide hgr; clear ho hgr hnil)
      have EBW := hide (grown_stays OA.out HGR.out EBA.out (by decide))
      have BW := hide (BA.out.grown HGR.out hsz9 (fun jj hj => (OA.out.lt jj hj).1))
      clear hsz9
      go_roundw
      case rel => exact ⟨1, g3, c3', by omega, rfl, by go_num, EBW.out, HO6.out, BW.out⟩
      case measure => simp [intOf]
    · have e2 := cell_of_block EBR.out 2
      have hal := (Below.refl wr.heap.size wr).alloc (Nat.le_refl _) (.cells #[.int .i64 1, .int .i64 0, .int .u64 (IntKind.u64.wrap xv), .string ⟨#[]⟩] 98)
      have XN := hide (cells_new (heap_new wr (.cells ([.int .i64 1, .int .i64 0, .int .u64 (IntKind.u64.wrap xv), .string ⟨#[]⟩] : List Value).toArray 98)))
      have OA := hide (owns_below OW.out hal)
      have BA := hide (BR.out.trans (hal.mono BR.out.size))
      have hsz9 : w.heap.size ≤ (wr.alloc (.cells #[.int .i64 1, .int .i64 0, .int .u64 (IntKind.u64.wrap xv), .string ⟨#[]⟩] 98)).heap.size := BA.out.size
      have EBA := hide ((hal.block _ (heap_lt EBR.out)).trans EBR.out)
      clear hal
      go_wp2_with (at_builtin; refine wpList_append_own2 _ rfl _ _ 99 rfl w.heap.size 98 i0 (.agg #[.int .i64 0, .int .i64 0, .int .u64 0, .string ⟨#[]⟩]) 4 40 Try.underlying99 HI.out HZ0.out HZ1.out HZ2.out rfl (by decide) (.slice (some ⟨g, 0, none⟩) 2 c4) 2 ((totFk ⟨xc, xs, xv, xr, xi, xo⟩ 1).flatMap fc) rfl OA.out ⟨wr.heap.size, 0, none⟩ 1 1 (by decide) [.int .i64 1, .int .i64 0, .int .u64 (IntKind.u64.wrap xv), .string ⟨#[]⟩] rfl rfl XN.out (by simp [Value.oneCell']) (by unfold maxLen; omega) (by omega) hsz9 ?_; intro g3 c3' w' ho hgr hnil; have HO6 := hide ho; have HGR := hide hgr; clear ho hgr hnil)
      have EBW := hide (grown_stays OA.out HGR.out EBA.out (by decide))
      have BW := hide (BA.out.grown HGR.out hsz9 (fun jj hj => (OA.out.lt jj hj).1))
      clear hsz9
      go_roundw
      case rel => exact ⟨2, g3, c3', by omega, rfl, by go_num, EBW.out, HO6.out, BW.out⟩
      case measure => simp [intOf]
    · have e3 := cell_of_block EBR.out 3
      have hal := (Below.refl wr.heap.size wr).alloc (Nat.le_refl _) (.cells #[.int .i64 1, .int .i64 0, .int .u64 (IntKind.u64.wrap xr), .string ⟨#[]⟩] 98)
      have XN := hide (cells_new (heap_new wr (.cells ([.int .i64 1, .int .i64 0, .int .u64 (IntKind.u64.wrap xr), .string ⟨#[]⟩] : List Value).toArray 98)))
      have OA := hide (owns_below OW.out hal)
      have BA := hide (BR.out.trans (hal.mono BR.out.size))
      have hsz9 : w.heap.size ≤ (wr.alloc (.cells #[.int .i64 1, .int .i64 0, .int .u64 (IntKind.u64.wrap xr), .string ⟨#[]⟩] 98)).heap.size := BA.out.size
      have EBA := hide ((hal.block _ (heap_lt EBR.out)).trans EBR.out)
      clear hal
      go_wp2_with (at_builtin; refine wpList_append_own2 _ rfl _ _ 99 rfl w.heap.size 98 i0 (.agg #[.int .i64 0, .int .i64 0, .int .u64 0, .string ⟨#[]⟩]) 4 40 Try.underlying99 HI.out HZ0.out HZ1.out HZ2.out rfl (by decide) (.slice (some ⟨g, 0, none⟩) 3 c4) 3 ((totFk ⟨xc, xs, xv, xr, xi, xo⟩ 2).flatMap fc) rfl OA.out ⟨wr.heap.size, 0, none⟩ 1 1 (by decide) [.int .i64 1, .int .i64 0, .int .u64 (IntKind.u64.wrap xr), .string ⟨#[]⟩] rfl rfl XN.out (by simp [Value.oneCell']) (by unfold maxLen; omega) (by omega) hsz9 ?_; intro g3 c3' w' ho hgr hnil; have HO6 := hide ho; have HGR := hide hgr; clear ho hgr hnil)
      have EBW := hide (grown_stays OA.out HGR.out EBA.out (by decide))
      have BW := hide (BA.out.grown HGR.out hsz9 (fun jj hj => (OA.out.lt jj hj).1))
      clear hsz9
      go_roundw
      case rel => exact ⟨3, g3, c3', by omega, rfl, by go_num, EBW.out, HO6.out, BW.out⟩
      case measure => simp [intOf]
    · have e4 := cell_of_block EBR.out 4
      have hal := (Below.refl wr.heap.size wr).alloc (Nat.le_refl _) (.cells #[.int .i64 1, .int .i64 0, .int .u64 (IntKind.u64.wrap xi), .string ⟨#[]⟩] 98)
      have XN := hide (cells_new (heap_new wr (.cells ([.int .i64 1, .int .i64 0, .int .u64 (IntKind.u64.wrap xi), .string ⟨#[]⟩] : List Value).toArray 98)))
      have OA := hide (owns_below OW.out hal)
      have BA := hide (BR.out.trans (hal.mono BR.out.size))
      have hsz9 : w.heap.size ≤ (wr.alloc (.cells #[.int .i64 1, .int .i64 0, .int .u64 (IntKind.u64.wrap xi), .string ⟨#[]⟩] 98)).heap.size := BA.out.size
      have EBA := hide ((hal.block _ (heap_lt EBR.out)).trans EBR.out)
      clear hal
      go_wp2_with (at_builtin; refine wpList_append_own2 _ rfl _ _ 99 rfl w.heap.size 98 i0 (.agg #[.int .i64 0, .int .i64 0, .int .u64 0, .string ⟨#[]⟩]) 4 40 Try.underlying99 HI.out HZ0.out HZ1.out HZ2.out rfl (by decide) (.slice (some ⟨g, 0, none⟩) 4 c4) 4 ((totFk ⟨xc, xs, xv, xr, xi, xo⟩ 3).flatMap fc) rfl OA.out ⟨wr.heap.size, 0, none⟩ 1 1 (by decide) [.int .i64 1, .int .i64 0, .int .u64 (IntKind.u64.wrap xi), .string ⟨#[]⟩] rfl rfl XN.out (by simp [Value.oneCell']) (by unfold maxLen; omega) (by omega) hsz9 ?_; intro g3 c3' w' ho hgr hnil; have HO6 := hide ho; have HGR := hide hgr; clear ho hgr hnil)
      have EBW := hide (grown_stays OA.out HGR.out EBA.out (by decide))
      have BW := hide (BA.out.grown HGR.out hsz9 (fun jj hj => (OA.out.lt jj hj).1))
      clear hsz9
      go_roundw
      case rel => exact ⟨4, g3, c3', by omega, rfl, by go_num, EBW.out, HO6.out, BW.out⟩
      case measure => simp [intOf]
    · have e5 := cell_of_block EBR.out 5
      have hal := (Below.refl wr.heap.size wr).alloc (Nat.le_refl _) (.cells #[.int .i64 1, .int .i64 0, .int .u64 (IntKind.u64.wrap xo), .string ⟨#[]⟩] 98)
      have XN := hide (cells_new (heap_new wr (.cells ([.int .i64 1, .int .i64 0, .int .u64 (IntKind.u64.wrap xo), .string ⟨#[]⟩] : List Value).toArray 98)))
      have OA := hide (owns_below OW.out hal)
      have BA := hide (BR.out.trans (hal.mono BR.out.size))
      have hsz9 : w.heap.size ≤ (wr.alloc (.cells #[.int .i64 1, .int .i64 0, .int .u64 (IntKind.u64.wrap xo), .string ⟨#[]⟩] 98)).heap.size := BA.out.size
      have EBA := hide ((hal.block _ (heap_lt EBR.out)).trans EBR.out)
      clear hal
      go_wp2_with (at_builtin; refine wpList_append_own2 _ rfl _ _ 99 rfl w.heap.size 98 i0 (.agg #[.int .i64 0, .int .i64 0, .int .u64 0, .string ⟨#[]⟩]) 4 40 Try.underlying99 HI.out HZ0.out HZ1.out HZ2.out rfl (by decide) (.slice (some ⟨g, 0, none⟩) 5 c4) 5 ((totFk ⟨xc, xs, xv, xr, xi, xo⟩ 4).flatMap fc) rfl OA.out ⟨wr.heap.size, 0, none⟩ 1 1 (by decide) [.int .i64 1, .int .i64 0, .int .u64 (IntKind.u64.wrap xo), .string ⟨#[]⟩] rfl rfl XN.out (by simp [Value.oneCell']) (by unfold maxLen; omega) (by omega) hsz9 ?_; intro g3 c3' w' ho hgr hnil; have HO6 := hide ho; have HGR := hide hgr; clear ho hgr hnil)
      have EBW := hide (grown_stays OA.out HGR.out EBA.out (by decide))
      have BW := hide (BA.out.grown HGR.out hsz9 (fun jj hj => (OA.out.lt jj hj).1))
      clear hsz9
      go_roundw
      case rel => exact ⟨5, g3, c3', by omega, rfl, by go_num, EBW.out, HO6.out, BW.out⟩
      case measure => simp [intOf]
    · go_wp2_with fail
      go_ret
      exact ⟨g, c4, rfl, OW.out, BR.out⟩
end Go.Proofs.Ytfdgfeohmkdnoaa

/-
  Layer 26: the document's Text by contract.
-/
--import Derived.Test.Zdbg
namespace Go.Proofs.Ytfdgfeohmkdnoaa
set_option linter.unusedSimpArgs false
set_option linter.unusedVariables false
open Go.RowKit Go.WideShapes Go.ChangeShapes Go.ChangeAt Go.Deep

theorem fcs_one (L : List Fld) : ∀ u ∈ L.flatMap fc, u.oneCell' = true := by
  intro u hu
  obtain ⟨x, -, h⟩ := List.mem_flatMap.1 hu
  exact fc_one x u h
set_option maxRecDepth 100000 in
set_option maxHeartbeats 4000000 in
theorem rshtext (M : ShM) (hok : ShOk M) (nw : TotM) (a : Option Addr) (cp : Nat) (w : World) (hin : RsIs w M nw a cp) :
    Calls Try.prog 22 #[rsV M nw a cp] w fun e w' => e = .returned (.string (refS (shF M))) ∧ Below w.heap.size w w' := by
  obtain ⟨i0, hi, hz0, hz1, hz2⟩ := info_parts (show (Try.prog.info? 98).map (fun i => (i.zero, i.size, i.bytes)) = some (some (.agg #[.int .i64 0, .int .i64 0, .int .u64 0, .string ⟨#[]⟩]), 4, 40) by kernel_rfl)
  have HI := hide hi
  have HZ0 := hide hz0
  have HZ1 := hide hz1
  have HZ2 := hide hz2
  clear hi hz0 hz1 hz2
  have HM := hide (fun m (h : m < M.L.length) => shFk_next M m h)
  have HFL := hide (fun m (h : m ≤ M.L.length) (h64 : M.L.length ≤ 64) => shFk_len M m h h64)
  have HALL := hide (shFk_all M)
  have HZR := hide (shFk_zero M)
  have HWR := hide (fun a cap W hF => refWrite_any (shF M) (Nat.le_trans (shF_len M (by have := hok.few; have := hok.kp; omega)) (by omega)) (shF_good hok) a cap W hF)
  obtain ⟨keep, next, op, ⟨zc, zs, zv, zr, zi, zo⟩, L⟩ := M
  obtain ⟨xc, xs, xv, xr, xi, xo⟩ := nw
  have hnx : 1 ≤ next ∧ next ≤ 4294967296 := hok.nx
  have hkp : 1 ≤ keep ∧ keep ≤ 64 := hok.kp
  have hfw : (L.length : Int) ≤ keep := hok.few
  have hcI : (L.length : Int) ≤ (cp : Int) := by have h5 : L.length ≤ cp := hin.cap; omega
  have HNOW := hide (show op = true → (⟨xc, xs, xv, xr, xi, xo⟩ : TotM) = ⟨zc, zs, zv, zr, zi, zo⟩ from hin.now)
  have HNO := hide (show TotOk ⟨zc, zs, zv, zr, zi, zo⟩ from hok.now)
  have HLO := hide (show ∀ t ∈ L, TotOk t from hok.L)
  have HIN := hide (show TsIn w a L from hin.ts)
  have hu1 : IntKind.u64.wrap next = next := by rw [IntKind.wrap_u64]; omega
  have hu2 : IntKind.u64.wrap (L.length : Int) = (L.length : Int) := by rw [IntKind.wrap_u64]; omega
  obtain ⟨ov, hov, hov2⟩ : ∃ ov : Int, (if op = true then (1 : Int) else 0) = ov ∧ (ov = 0 ∨ ov = 1) := ⟨_, rfl, by cases op <;> simp⟩
  have HOV := hide hov
  clear hin hok hov hov2
  obtain ⟨fk, hfk⟩ : ∃ f, shFk ⟨keep, next, op, ⟨zc, zs, zv, zr, zi, zo⟩, L⟩ = f := ⟨_, rfl⟩
  (try dsimp only at HM)
  (try dsimp only at HFL)
  (try dsimp only at HALL)
  rw [hfk] at HM HFL HALL HZR
  clear hfk
  unfold rsV
  dsimp only
  obtain ⟨ob, hob⟩ : ∃ ob, ob = (Obj.cells #[.int .i64 keep, .int .i64 next, .bool op, .int .i64 xc, .int .i64 xs, .int .i64 xv, .int .i64 xr, .int .i64 xi, .int .i64 xo, .slice a L.length cp] 32) := ⟨_, rfl⟩
  have hal := (Below.refl w.heap.size w).alloc (Nat.le_refl _) ob
  have XX := hide (show (w.alloc ob).heap[w.heap.size]? = some (.cells #[.int .i64 keep, .int .i64 next, .bool op, .int .i64 xc, .int .i64 xs, .int .i64 xv, .int .i64 xr, .int .i64 xi, .int .i64 xo, .slice a L.length cp] 32 (0, 0)) by rw [heap_new, hob])
  have BB := hide hal
  clear hal
  go_enter Try.func22, Try.ntmps22
  go_upto_region 1 with (fail)
  rw [← hob]
  generalize w.alloc ob = w1 at *
  obtain ⟨xb, hxb⟩ : ∃ k, w.heap.size = k := ⟨_, rfl⟩
  rw [hxb] at XX ⊢
  clear hob ob
  have HXB := hide hxb
  clear hxb
  have c2 := cell_of_block XX.out 2
  go_upto_if 11 with (fail)
  go_cut [3] from 12 to 53 (fun s3 W => s3 = .int .u64 ov ∧ W = w1)
  case first =>
    cases op with
    | true =>
      have := HOV.out
      rw [if_pos rfl] at this
      go_wp2_with fail
      go_meet
      exact ⟨by rw [← this], rfl⟩
    | false =>
      have := HOV.out
      rw [if_neg (by decide)] at this
      go_wp2_with fail
      go_meet
      exact ⟨by rw [← this], rfl⟩
  case rest =>
  obtain ⟨rfl, rfl⟩ := hcut
  clear c2
  have c1 := cell_of_block XX.out 1
  have c9 := cell_of_block XX.out 9
  go_upto_region 5 with (fail)
  clear c1 c9 hu1 hu2
  have H3 := hide (show (fk 0).flatMap fc = [.int .i64 0, .int .i64 5, .int .u64 next, .string ⟨#[]⟩, .int .i64 0, .int .i64 1, .int .u64 ov, .string ⟨#[]⟩, .int .i64 0, .int .i64 1, .int .u64 (L.length : Int), .string ⟨#[]⟩] ∧ (fk 0).length = 3 from by
    rw [HZR.out]
    unfold shH
    dsimp only
    rw [HOV.out]
    exact ⟨rfl, rfl⟩)
  obtain ⟨of, hof⟩ : ∃ ob, ob = (Obj.cells #[.int .i64 0, .int .i64 5, .int .u64 next, .string ⟨#[]⟩, .int .i64 0, .int .i64 1, .int .u64 ov, .string ⟨#[]⟩, .int .i64 0, .int .i64 1, .int .u64 (L.length : Int), .string ⟨#[]⟩] 98) := ⟨_, rfl⟩
  rw [← hof]
  have hal := (Below.refl wc.heap.size wc).alloc (Nat.le_refl _) of
  have XF := hide (heap_new wc of)
  have BB2 := hide (BB.out.trans (hal.mono BB.out.size))
  have XX2 := hide ((hal.block _ (heap_lt XX.out)).trans XX.out)
  have HFB := hide (show w.heap.size ≤ wc.heap.size from BB.out.size)
  clear hal XX BB
  generalize wc.alloc of = w2 at *
  generalize wc.heap.size = fb at *
  rw [hof] at XF
  clear hof of
  have OW0 := hide (show w2.ownsRow w.heap.size 98 4 (.slice (some ⟨fb, 0, none⟩) (fk 0).length 3) (fk 0).length ((fk 0).flatMap fc) from by
    rw [H3.out.1, H3.out.2]
    exact ⟨rfl, .inr ⟨fb, 3, _, rfl, HFB.out, XF.out, Nat.le_refl _, by decide, rfl, rfl⟩⟩)
  have H30 := hide H3.out.2
  clear XF H3
  go_wp2_with fail
  go_loopw [4, 5] (fun l i W => ∃ (m g c4 : Nat), m ≤ L.length ∧ l = .slice (some ⟨g, 0, none⟩) (fk m).length c4 ∧ i = .int .i64 m ∧ W.heap[xb]? = some (.cells #[.int .i64 keep, .int .i64 next, .bool op, .int .i64 xc, .int .i64 xs, .int .i64 xv, .int .i64 xr, .int .i64 xi, .int .i64 xo, .slice a L.length cp] 32 (0, 0)) ∧ W.ownsRow w.heap.size 98 4 (.slice (some ⟨g, 0, none⟩) (fk m).length c4) (fk m).length ((fk m).flatMap fc) ∧ Below w.heap.size w W) (fun _ i _ => L.length - (intOf i).toNat)
  case atStart => exact ⟨0, fb, 3, by omega, by rw [H30.out], rfl, XX2.out, OW0.out, BB2.out⟩
  case round =>
    obtain ⟨m, g, c4, hm, rfl, rfl, hx, ho, hb⟩ := hrel
    have XW := hide hx
    have OW := hide ho
    have BW := hide hb
    have TW := hide (HIN.out.below hb)
    clear hx ho hb XX2 OW0 BB2
    have hfl := HFL.out m hm (by omega)
    have c9 := cell_of_block XW.out 9
    by_cases hlt : m < L.length
    · obtain ⟨gg, rfl, hgl, hcell⟩ := TW.out m hlt
      have HT := hide (HLO.out (L.getD m tot0) (by simp [List.getD, hlt]))
      have HNX := hide (HM.out m hlt)
      have y0 := hcell 0 (by decide)
      have y1 := hcell 1 (by decide)
      have y2 := hcell 2 (by decide)
      have y3 := hcell 3 (by decide)
      have y4 := hcell 4 (by decide)
      have y5 := hcell 5 (by decide)
      generalize L.getD m tot0 = yy at *
      obtain ⟨yc, ys, yv, yr, yi, yo⟩ := yy
      simp only [totC, List.getElem?_cons_zero, List.getElem?_cons_succ, Nat.add_zero] at y0 y1 y2 y3 y4 y5
      clear hcell
      have HTF := hide (fun W => rtotF_any yc ys yv yr yi yo HT.out.c W)
      unfold totV at HTF
      dsimp only at HTF
      generalize fk m = sm at *
      go_wp2_with fail
      refine (HTF.out _).mono ?_
      rintro e w3 ⟨tg, tc, rfl, ho, hb⟩
      have XW3 := hide ((hb.block _ (heap_lt XW.out)).trans XW.out)
      have OW3 := hide (owns_below OW.out hb)
      have BW3 := hide (BW.out.trans (hb.mono BW.out.size))
      have HNC := hide (fun j u (hu : ((totF ⟨yc, ys, yv, yr, yi, yo⟩).flatMap fc)[j]? = some u) => show w3.cell? ((⟨tg, 0, none⟩ : Addr).add j) = some u from by
        have hc := ho.cells (g := tg) rfl j u hu
        rw [Go.WideShapes.add_plain, Nat.zero_add] at hc ⊢
        exact hc)
      have hsz9 : w.heap.size ≤ w3.heap.size := BW3.out.size
      clear hb ho y0 y1 y2 y3 y4 y5 c9
      go_wp2_with (at_builtin; refine wpList_append_own2 _ rfl _ _ 99 rfl w.heap.size 98 i0 (.agg #[.int .i64 0, .int .i64 0, .int .u64 0, .string ⟨#[]⟩]) 4 40 Try.underlying99 HI.out HZ0.out HZ1.out HZ2.out rfl (by decide) (.slice (some ⟨g, 0, none⟩) sm.length c4) sm.length (sm.flatMap fc) rfl OW3.out ⟨tg, 0, none⟩ 6 tc (by decide) ((totF ⟨yc, ys, yv, yr, yi, yo⟩).flatMap fc) rfl rfl HNC.out (fcs_one _) (by unfold maxLen; omega) (by omega) hsz9 ?_; intro g3 c3' w' ho hgr hnil; have HO6 := hide ho; have HGR := hide hgr; clear ho hgr hnil)
      have XW4 := hide (grown_stays OW3.out HGR.out XW3.out (by decide))
      have BW4 := hide (BW3.out.grown HGR.out hsz9 (fun jj hj => (OW3.out.lt jj hj).1))
      clear hsz9
      go_roundw
      case rel => exact ⟨m + 1, g3, c3', hlt, by rw [HNX.out, List.length_append, totF_len], by go_num, XW4.out, by rw [HNX.out, List.length_append, totF_len, List.flatMap_append]; exact HO6.out, BW4.out⟩
      case measure => simp [intOf]; omega
    · obtain rfl : m = L.length := by omega
      rw [HALL.out] at OW hfl ⊢
      have c2 := cell_of_block XW.out 2
      obtain ⟨hd, hhd⟩ : ∃ hd, shH ⟨keep, next, op, ⟨zc, zs, zv, zr, zi, zo⟩, L⟩ ++ L.flatMap totF = hd := ⟨_, rfl⟩
      rw [hhd] at OW hfl ⊢
      cases op with
      | true =>
        have e0 := HNOW.out rfl
        cases e0
        have HFIN := hide (shF_open (M := ⟨keep, next, true, ⟨zc, zs, zv, zr, zi, zo⟩, L⟩) rfl)
        (try dsimp only at HFIN)
        rw [hhd] at HFIN
        clear hhd
        have HTF := hide (fun W => rtotF_any zc zs zv zr zi zo HNO.out.c W)
        unfold totV at HTF
        dsimp only at HTF
        obtain ⟨⟨c0, c1, c2, c3, c4, c5, c6, c7, c8, c9⟩, ⟨f0, f1, f2, f3, f4, f5, f6, f7, f8, f9⟩⟩ := sh_facts XW.out
        clear f0 f1 f2 f3 f4 f5 f6 f7 f8 f9
        go_wp2_with fail
        refine (HTF.out _).mono ?_
        rintro e w3 ⟨tg, tc, rfl, ho, hb⟩
        have OW3 := hide (owns_below OW.out hb)
        have BW3 := hide (BW.out.trans (hb.mono BW.out.size))
        have HNC := hide (fun j u (hu : ((totF ⟨zc, zs, zv, zr, zi, zo⟩).flatMap fc)[j]? = some u) => show w3.cell? ((⟨tg, 0, none⟩ : Addr).add j) = some u from by
          have hc := ho.cells (g := tg) rfl j u hu
          rw [Go.WideShapes.add_plain, Nat.zero_add] at hc ⊢
          exact hc)
        have hsz9 : w.heap.size ≤ w3.heap.size := BW3.out.size
        clear hb ho c0 c1 c2 c3 c4 c5 c6 c7 c8 c9
        go_wp2_with (at_builtin; refine wpList_append_own2 _ rfl _ _ 99 rfl w.heap.size 98 i0 (.agg #[.int .i64 0, .int .i64 0, .int .u64 0, .string ⟨#[]⟩]) 4 40 Try.underlying99 HI.out HZ0.out HZ1.out HZ2.out rfl (by decide) (.slice (some ⟨g, 0, none⟩) hd.length c4) hd.length (hd.flatMap fc) rfl OW3.out ⟨tg, 0, none⟩ 6 tc (by decide) ((totF ⟨zc, zs, zv, zr, zi, zo⟩).flatMap fc) rfl rfl HNC.out (fcs_one _) (by unfold maxLen; omega) (by omega) hsz9 ?_; intro g3 c3' w' ho hgr hnil; have HO6 := hide ho; have HGR := hide hgr; clear ho hgr hnil)
        have BW4 := hide (BW3.out.grown HGR.out hsz9 (fun jj hj => (OW3.out.lt jj hj).1))
        have OW4 := hide (show w'.ownsRow w.heap.size 98 4 (.slice (some ⟨g3, 0, none⟩) (shF ⟨keep, next, true, ⟨zc, zs, zv, zr, zi, zo⟩, L⟩).length c3') (shF ⟨keep, next, true, ⟨zc, zs, zv, zr, zi, zo⟩, L⟩).length ((shF ⟨keep, next, true, ⟨zc, zs, zv, zr, zi, zo⟩, L⟩).flatMap fc) from by
          rw [HFIN.out, List.length_append, totF_len, List.flatMap_append]
          exact HO6.out)
        have HLF := hide (show hd.length + 6 = (shF ⟨keep, next, true, ⟨zc, zs, zv, zr, zi, zo⟩, L⟩).length from by rw [HFIN.out, List.length_append, totF_len])
        rw [HLF.out]
        clear hsz9
        obtain ⟨fl, hflq⟩ : ∃ fl, shF ⟨keep, next, true, ⟨zc, zs, zv, zr, zi, zo⟩, L⟩ = fl := ⟨_, rfl⟩
        rw [hflq] at HWR OW4 ⊢
        have HFQ := hide hflq
        clear hflq
        refine (HWR.out (some ⟨g3, 0, none⟩) c3' _ (flds_of_owns OW4.out)).mono ?_
        rintro e w9 ⟨rfl, hb⟩
        have B9 := hide (BW4.out.trans (hb.mono BW4.out.size))
        clear hb
        go_wp2_with fail
        go_ret
        exact ⟨by rw [HFQ.out]; rfl, by first | exact B9.out | (rw [← HXB.out]; exact B9.out)⟩
      | false =>
        have HFIN := hide (shF_shut (M := ⟨keep, next, false, ⟨zc, zs, zv, zr, zi, zo⟩, L⟩) rfl)
        (try dsimp only at HFIN)
        rw [hhd] at HFIN
        clear hhd
        rw [← HFIN.out] at OW ⊢
        obtain ⟨fl, hflq⟩ : ∃ fl, shF ⟨keep, next, false, ⟨zc, zs, zv, zr, zi, zo⟩, L⟩ = fl := ⟨_, rfl⟩
        rw [hflq] at HWR OW ⊢
        have HFQ := hide hflq
        clear hflq
        go_wp2_with fail
        refine (HWR.out (some ⟨g, 0, none⟩) c4 _ (flds_of_owns OW.out)).mono ?_
        rintro e w9 ⟨rfl, hb⟩
        have B9 := hide (BW.out.trans (hb.mono BW.out.size))
        clear hb
        go_wp2_with fail
        go_ret
        exact ⟨by rw [HFQ.out]; rfl, by first | exact B9.out | (rw [← HXB.out]; exact B9.out)⟩
end Go.Proofs.Ytfdgfeohmkdnoaa
