/-
  Layer 23: the document's Text.
-/
import Derived.Test.YtjnfmgbbhiklaaaBooks9
--import Derived.Test.Zdbg
namespace Go.Proofs.Ytjnfmgbbhiklaaa
set_option linter.unusedSimpArgs false
set_option linter.unusedVariables false
open Go.RowKit Go.WideShapes Go.ChangeShapes Go.ChangeAt Go.Deep

set_option maxRecDepth 100000 in
set_option maxHeartbeats 1000000 in
theorem rbText (M : List LnM) (hr : OkB M) (hM : M.length ≤ 400) (a : Option Addr) (cap : Nat) (w : World) (hin : LnIn w a M) :
    Calls Try.prog 18 #[.slice a M.length cap] w fun e w' => e = .returned (.string (refS (bkF M))) ∧ Below w.heap.size w w' := by
  obtain ⟨i0, hi, hz0, hz1, hz2⟩ := info_parts (show (Try.prog.info? 82).map (fun i => (i.zero, i.size, i.bytes)) = some (some (.agg #[.int .i64 0, .int .i64 0, .int .u64 0, .string ⟨#[]⟩]), 4, 40) by kernel_rfl)
  have HI := hide hi
  have HZ0 := hide hz0
  have HZ1 := hide hz1
  have HZ2 := hide hz2
  have HIN := hide hin
  have HR := hide hr
  have HAT := hide (fun m (h : m < M.length) => bkFk_next M m h)
  have HLL := hide (fun m (h : m ≤ M.length) => bkFk_len M m h)
  have HW := hide (fun a cap W hF => refWrite_any (bkF M) (by have := bkFk_len M M.length (Nat.le_refl _); rw [bkFk_all] at this; omega) (bkF_good hr (by omega)) a cap W hF)
  have HALL := hide (bkFk_all M)
  have hu : IntKind.u64.wrap (M.length : Int) = (M.length : Int) := by rw [IntKind.wrap_u64]; omega
  clear hi hz0 hz1 hz2 hin hr
  have hal := (Below.refl w.heap.size w).alloc (Nat.le_refl _) (.cells #[.int .i64 0, .int .i64 2, .int .u64 (M.length : Int), .string ⟨#[]⟩] 82)
  have O1 := hide (show (w.alloc (.cells #[.int .i64 0, .int .i64 2, .int .u64 (M.length : Int), .string ⟨#[]⟩] 82)).ownsRow w.heap.size 82 4 (.slice (some ⟨w.heap.size, 0, none⟩) (bkFk M 0).length 1) (bkFk M 0).length ((bkFk M 0).flatMap fc) from by
    rw [bkFk_zero]
    exact ⟨rfl, .inr ⟨w.heap.size, 1, _, rfl, Nat.le_refl _, heap_new _ _, Nat.le_refl _, by decide, rfl, rfl⟩⟩)
  have B1 := hide hal
  have H0 := hide (show (bkFk M 0).length = 1 by rw [bkFk_zero]; rfl)
  clear hal
  go_enter Try.func18, Try.ntmps18
  go_wp2_with fail
  generalize hcf : bkFk M = cf at *
  have HCF := hide hcf
  clear hcf hu
  go_loopw [3, 4] (fun l i W => ∃ (m : Nat) (g : Option Addr) (c4 : Nat), m ≤ M.length ∧ l = .slice g (cf m).length c4 ∧ i = .int .i64 m ∧ W.ownsRow w.heap.size 82 4 (.slice g (cf m).length c4) (cf m).length ((cf m).flatMap fc) ∧ Below w.heap.size w W) (fun _ i _ => M.length - (Go.RowKit.intOf i).toNat)
  case atStart => exact ⟨0, some ⟨w.heap.size, 0, none⟩, 1, by omega, by rw [H0.out], rfl, O1.out, B1.out⟩
  case round =>
    obtain ⟨m, g, c4, hm, rfl, rfl, ho, hb⟩ := hrel
    have OM := hide ho
    have BM := hide hb
    clear ho hb O1 B1
    have hln := HLL.out m hm
    by_cases hlt : m < M.length
    · have HLT := hide hlt
      obtain ⟨bl, off, rfl, hbl, p0, p1⟩ := HIN.out m hlt
      obtain ⟨hn1, hc1, hc2⟩ := HR.out (M.getD m ln0) (ln_mem M m hlt)
      have HNX := hide (HAT.out m hlt)
      generalize M.getD m ln0 = x at *
      obtain ⟨c, n⟩ := x
      dsimp only at *
      have HC0 := hide (fun (W : World) (h : Below w.heap.size w W) => cell_keep p0 hbl h)
      have HC1 := hide (fun (W : World) (h : Below w.heap.size w W) => cell_keep p1 hbl h)
      clear p0 p1 hbl
      have hu1 : IntKind.u64.wrap c = c := by rw [IntKind.wrap_u64]; omega
      obtain ⟨u, hu⟩ : ∃ u, IntKind.u64.wrap n = u := ⟨_, rfl⟩
      have HU := hide hu
      clear hn1 hc1 hc2
      generalize cf m = sm at *
      have e0 := HC0.out _ BM.out
      have hal := (Below.refl wr.heap.size wr).alloc (Nat.le_refl _) (.cells #[.int .i64 0, .int .i64 2, .int .u64 c, .string ⟨#[]⟩] 82)
      have XN := hide (heap_new wr (.cells #[.int .i64 0, .int .i64 2, .int .u64 c, .string ⟨#[]⟩] 82))
      have OMa := hide (owns_below OM.out hal)
      have BMa := hide (BM.out.trans (hal.mono BM.out.size))
      have hw2 : w.heap.size ≤ (wr.alloc (.cells #[.int .i64 0, .int .i64 2, .int .u64 c, .string ⟨#[]⟩] 82)).heap.size := BMa.out.size
      clear hal OM BM
      go_upto_region 6 with (at_builtin; refine wpList_append_own2 _ rfl _ _ 83 rfl w.heap.size 82 i0 (.agg #[.int .i64 0, .int .i64 0, .int .u64 0, .string ⟨#[]⟩]) 4 40 Try.underlying83 HI.out HZ0.out HZ1.out HZ2.out rfl (by decide) (.slice g (sm.length) c4) (sm.length) (sm.flatMap fc) rfl OMa.out ⟨wr.heap.size, 0, none⟩ 1 1 (by decide) [.int .i64 0, .int .i64 2, .int .u64 c, .string ⟨#[]⟩] rfl rfl (cells_new XN.out) (by simp [Value.oneCell']) (by unfold maxLen; omega) (by omega) hw2 ?_; intro g3 c3' w3 ho hgr hnil; have OM := hide ho; have BM := hide (BMa.out.grown hgr BMa.out.size (fun jj hj => (OMa.out.lt jj hj).1)); clear ho hgr hnil)
      clear OMa BMa XN hw2 e0
      have e1 := HC1.out _ BM.out
      have hal := (Below.refl w3.heap.size w3).alloc (Nat.le_refl _) (.cells #[.int .i64 1, .int .i64 0, .int .u64 u, .string ⟨#[]⟩] 82)
      have XN := hide (heap_new w3 (.cells #[.int .i64 1, .int .i64 0, .int .u64 u, .string ⟨#[]⟩] 82))
      have OMa := hide (owns_below OM.out hal)
      have BMa := hide (BM.out.trans (hal.mono BM.out.size))
      have hw2 : w.heap.size ≤ (w3.alloc (.cells #[.int .i64 1, .int .i64 0, .int .u64 u, .string ⟨#[]⟩] 82)).heap.size := BMa.out.size
      clear hal OM BM
      go_wp2_with (at_builtin; refine wpList_append_own2 _ rfl _ _ 83 rfl w.heap.size 82 i0 (.agg #[.int .i64 0, .int .i64 0, .int .u64 0, .string ⟨#[]⟩]) 4 40 Try.underlying83 HI.out HZ0.out HZ1.out HZ2.out rfl (by decide) (.slice (some ⟨g3, 0, none⟩) (sm.length + 1) c3') (sm.length + 1) (sm.flatMap fc ++ [Value.int .i64 0, Value.int .i64 2, Value.int .u64 c, Value.string ⟨#[]⟩]) rfl OMa.out ⟨w3.heap.size, 0, none⟩ 1 1 (by decide) [.int .i64 1, .int .i64 0, .int .u64 u, .string ⟨#[]⟩] rfl rfl (cells_new XN.out) (by simp [Value.oneCell']) (by unfold maxLen; omega) (by omega) hw2 ?_; intro g5 c5' w5 ho hgr hnil; have OM := hide ho; have BM := hide (BMa.out.grown hgr BMa.out.size (fun jj hj => (OMa.out.lt jj hj).1)); clear ho hgr hnil)
      clear OMa BMa XN hw2
      go_roundw
      case rel => exact ⟨m + 1, some ⟨g5, 0, none⟩, c5', HLT.out, by rw [HNX.out]; simp [bkE], by go_num, by rw [HNX.out]; simpa [List.flatMap_append, bkE, fc, HU.out] using OM.out, BM.out⟩
      case measure => have := HLT.out; simp [Go.RowKit.intOf]; omega
    · obtain rfl : M.length = m := by omega
      have hcm : cf M.length = bkF M := HALL.out
      rw [hcm] at OM hln ⊢
      clear hcm
      go_wp2_with fail
      refine (HW.out g c4 _ (flds_of_owns OM.out)).mono ?_
      rintro e w9 ⟨rfl, hb⟩
      have B9 := hide (BM.out.trans (hb.mono BM.out.size))
      clear hb
      go_wp2_with fail
      go_ret
      exact ⟨rfl, B9.out⟩
end Go.Proofs.Ytjnfmgbbhiklaaa
