/-
  Layer 23: lines; same: books are the document's.
-/
import Derived.Test.YtjnfmgbbhiklaaaBooks10
import Derived.Test.YtjnfmgbbhiklaaaBooks8
--import Derived.Test.Zdbg
namespace Go.Proofs.Ytjnfmgbbhiklaaa
set_option linter.unusedSimpArgs false
set_option linter.unusedVariables false
open Go.RowKit Go.WideShapes Go.ChangeShapes Go.ChangeAt Go.Deep

def LinesIs (L : List LnM) (n : Nat) (w : World) (e : Ending) (w' : World) : Prop := ∃ (a4 : Option Addr) (c4 : Nat) (a5 : Option Addr) (c5 : Nat), e = .returned (.tuple #[.slice a4 n c4, .slice a5 n c5]) ∧ n ≤ c4 ∧ n ≤ c5 ∧ LnIn w' a4 (L.take n) ∧ LnIn w' a5 (L.take n) ∧ Below w.heap.size w w'
set_option maxRecDepth 100000 in
set_option maxHeartbeats 1000000 in
theorem lines23 (L : List LnM) (a : Option Addr) (cap n : Nat) (hn : min L.length 10 = n) (hcap : L.length ≤ cap) (w : World) (hin : LnIn w a L) :
    Calls Try.prog 7 #[.slice a L.length cap] w (LinesIs L n w) := by
  obtain ⟨i0, hi, hz0, hz1, hz2⟩ := info_parts (show (Try.prog.info? 56).map (fun i => (i.zero, i.size, i.bytes)) = some (some (.agg #[.int .i64 0, .int .i64 0]), 2, 16) by kernel_rfl)
  have HI := hide hi
  have HZ0 := hide hz0
  have HZ1 := hide hz1
  have HZ2 := hide hz2
  obtain ⟨i1, hi1, hy0, hy1, hy2⟩ := info_parts (show (Try.prog.info? 65).map (fun i => (i.zero, i.size, i.bytes)) = some (some (.agg #[.int .i64 0, .int .i64 0]), 2, 16) by kernel_rfl)
  have HI1 := hide hi1
  have HY0 := hide hy0
  have HY1 := hide hy1
  have HY2 := hide hy2
  have HIN := hide hin
  have hmF : (if (10 : Int) < (L.length : Int) then (10 : Int) else (L.length : Int)) = (n : Int) := by split <;> omega
  have hmI : min (L.length : Int) 10 = (n : Int) := by omega
  have hn20 : n ≤ 10 := by omega
  have hnl : n ≤ L.length := by omega
  have hcI : (n : Int) ≤ (cap : Int) := by omega
  clear hi hz0 hz1 hz2 hi1 hy0 hy1 hy2 hin hn
  go_enter Try.func7, Try.ntmps7
  go_wp2_with fail
  go_loopw [4, 5, 14] (fun s t i W => ∃ (k : Nat) (a4 : Option Addr) (c4 : Nat) (a5 : Option Addr) (c5 : Nat), k ≤ n ∧ i = .int .i64 k ∧ s = .slice a4 k c4 ∧ t = .slice a5 k c5 ∧ W.ownsRow w.heap.size 56 2 (.slice a4 k c4) k ((L.take k).flatMap lnC) ∧ W.ownsRow w.heap.size 65 2 (.slice a5 k c5) k ((L.take k).flatMap lnC) ∧ Below w.heap.size w W) (fun s t i _ => n - (intOf i).toNat)
  case atStart => exact ⟨0, none, 0, none, 0, by omega, rfl, rfl, rfl, World.ownsRow_nil _ _ _ _, World.ownsRow_nil _ _ _ _, Below.refl _ _⟩
  case round =>
    obtain ⟨k, a4, c4, a5, c5, hk, rfl, rfl, rfl, ho, ho', hb⟩ := hrel
    have OA := hide ho
    have OB := hide ho'
    have BK := hide hb
    clear ho ho' hb
    by_cases hlt : k < n
    · obtain ⟨b, off, rfl, hbl, c0, c1⟩ := (HIN.out.below BK.out) k (by omega)
      have HTN := hide (ln_next L k (by omega))
      generalize L.getD k ln0 = x at *
      obtain ⟨xc, xn⟩ := x
      dsimp only at *
      go_upto_region 6 with (fail)
      obtain ⟨ob, hob⟩ : ∃ ob, ob = (Obj.cells #[.int .i64 xc, .int .i64 xn] 54) := ⟨_, rfl⟩
      rw [← hob]
      have hal := (Below.refl wr.heap.size wr).alloc (Nat.le_refl _) ob
      have X1 := hide (show (wr.alloc ob).heap[wr.heap.size]? = some (.cells #[.int .i64 xc, .int .i64 xn] 54 (0, 0)) by rw [heap_new, hob])
      have OA1 := hide (owns_below OA.out hal)
      have OB1 := hide (owns_below OB.out hal)
      have B1 := hide (BK.out.alloc BK.out.size ob)
      clear hal OA OB BK hbl c0 c1
      generalize wr.alloc ob = w1 at *
      generalize wr.heap.size = q at *
      clear hob ob
      have d0 := cell_of_block X1.out 0
      have d1 := cell_of_block X1.out 1
      have hal := (Below.refl w1.heap.size w1).alloc (Nat.le_refl _) (.cells #[.int .i64 xc, .int .i64 xn] 56)
      have XB := hide (heap_new w1 (.cells #[.int .i64 xc, .int .i64 xn] 56))
      have X2 := hide ((hal.block _ (heap_lt X1.out)).trans X1.out)
      have OA2 := hide (owns_below OA1.out hal)
      have OB2 := hide (owns_below OB1.out hal)
      have B2 := hide (B1.out.alloc B1.out.size (.cells #[.int .i64 xc, .int .i64 xn] 56))
      have hw2 : w.heap.size ≤ (w1.alloc (.cells #[.int .i64 xc, .int .i64 xn] 56)).heap.size := B2.out.size
      clear hal OA1 OB1 B1
      go_upto_region 7 with (at_builtin; refine wpList_append_own2 _ rfl _ _ 29 rfl w.heap.size 56 i0 (.agg #[.int .i64 0, .int .i64 0]) 2 16 Try.underlying29 HI.out HZ0.out HZ1.out HZ2.out rfl (by decide) (.slice a4 k c4) k ((L.take k).flatMap lnC) rfl OA2.out ⟨w1.heap.size, 0, none⟩ 1 1 (by decide) (lnC ⟨xc, xn⟩) rfl rfl (cells_new XB.out) (lnC_one _) (by unfold maxLen; omega) (by omega) hw2 ?_; intro g3 c3' w3 ho hgr hnil; have OA3 := hide ho; have OB3 := hide (owns_still OB2.out OA2.out (by decide) hgr); have B3 := hide (B2.out.grown hgr B2.out.size (fun jj h => (OA2.out.lt jj h).1)); have X3 := hide ((hgr.block q (heap_lt X2.out) (fun h => by obtain ⟨cq, fq, hcq⟩ := Go.Lib.ownsRow_kind OA2.out q h.symm; rw [X2.out] at hcq; simp only [Option.some.injEq, Obj.cells.injEq] at hcq; exact absurd hcq.2.1 (by decide))).trans X2.out); clear ho hgr hnil)
      clear OA2 OB2 B2 X2 X1 XB hw2 d0 d1
      have d0 := cell_of_block X3.out 0
      have d1 := cell_of_block X3.out 1
      have hal := (Below.refl w3.heap.size w3).alloc (Nat.le_refl _) (.cells #[.int .i64 xc, .int .i64 xn] 65)
      have XB := hide (heap_new w3 (.cells #[.int .i64 xc, .int .i64 xn] 65))
      have OA4 := hide (owns_below OA3.out hal)
      have OB4 := hide (owns_below OB3.out hal)
      have B4 := hide (B3.out.alloc B3.out.size (.cells #[.int .i64 xc, .int .i64 xn] 65))
      have hw2 : w.heap.size ≤ (w3.alloc (.cells #[.int .i64 xc, .int .i64 xn] 65)).heap.size := B4.out.size
      clear hal OA3 OB3 B3
      go_wp2_with (at_builtin; refine wpList_append_own2 _ rfl _ _ 25 rfl w.heap.size 65 i1 (.agg #[.int .i64 0, .int .i64 0]) 2 16 Try.underlying25 HI1.out HY0.out HY1.out HY2.out rfl (by decide) (.slice a5 k c5) k ((L.take k).flatMap lnC) rfl OB4.out ⟨w3.heap.size, 0, none⟩ 1 1 (by decide) (lnC ⟨xc, xn⟩) rfl rfl (cells_new XB.out) (lnC_one _) (by unfold maxLen; omega) (by omega) hw2 ?_; intro g5 c5' w5 ho hgr hnil; have OB5 := hide ho; have OA5 := hide (owns_still OA4.out OB4.out (by decide) hgr); have B5 := hide (B4.out.grown hgr B4.out.size (fun jj h => (OB4.out.lt jj h).1)); clear ho hgr hnil)
      go_roundw
      case rel => exact ⟨k + 1, _, _, _, _, by omega, by go_num, rfl, rfl, by rw [HTN.out, List.flatMap_append]; simpa using OA5.out, by rw [HTN.out, List.flatMap_append]; simpa using OB5.out, B5.out⟩
      case measure => simp [intOf]; omega
    · obtain rfl : n = k := by omega
      have hl : (L.take n).length = n := by rw [List.length_take]; omega
      go_wp2_with fail
      go_ret2
      exact ⟨a4, c4, a5, c5, rfl, owns_cap OA.out, owns_cap OB.out, LnIn.of_owns (c := c4) (by rw [hl]; exact OA.out), LnIn.of_owns (c := c5) (by rw [hl]; exact OB.out), BK.out⟩

set_option maxRecDepth 100000 in
set_option maxHeartbeats 1000000 in
theorem same23 (N p bm : Nat) (M : List LnM) (hML : M.length ≤ 10000) (a : Option Addr) (cap : Nat) (w : World) (h : BooksIs N w p bm M) (hin : LnIn w a M) :
    Calls Try.prog 11 #[.pointer (some ⟨p, 0, none⟩), .slice a M.length cap] w fun e w' => e = .returned (.bool true) ∧ Below w.heap.size w w' := by
  have HC := hide h
  have HIN := hide hin
  have HL := hide (bklist_any N p bm M (by omega) w h)
  have HOK := hide h.ok
  have HRI := hide h.rise
  clear h hin
  go_enter Try.func11, Try.ntmps11
  go_wp2_with fail
  refine HL.out.mono ?_
  rintro e w1 ⟨la, lc, rfl, ho, hb⟩
  have L1 := hide (LnIn.of_owns ho)
  have C1 := hide (HC.out.below hb)
  have I1 := hide (HIN.out.below hb)
  have B1 := hide hb
  clear ho hb HL HC HIN
  go_wp2_with fail
  go_loopw [17] (fun i W => ∃ m : Nat, m ≤ M.length ∧ i = .int .i64 m ∧ BooksIs N W p bm M ∧ LnIn W la M ∧ LnIn W a M ∧ Below w.heap.size w W) (fun i _ => M.length - (intOf i).toNat)
  case atStart => exact ⟨0, by omega, rfl, C1.out, L1.out, I1.out, B1.out⟩
  case round =>
    obtain ⟨m, hm, rfl, hc, hl, hi, hb⟩ := hrel
    have CM := hide hc
    have LM := hide hl
    have IM := hide hi
    have BM := hide hb
    clear hc hl hi hb C1 L1 I1 B1
    by_cases hlt : m < M.length
    · obtain ⟨bl, off, rfl, hbl, p0, p1⟩ := LM.out m hlt
      obtain ⟨bd, od, rfl, hbd, q0, q1⟩ := IM.out m hlt
      obtain ⟨hn1, hc1, hc2⟩ := HOK.out (M.getD m ln0) (ln_mem M m hlt)
      have HG := hide (fun W hW => bkBal N p bm M (M.getD m ln0).c ⟨by omega, by omega⟩ W hW)
      rw [getB_at HRI.out hlt] at HG
      generalize M.getD m ln0 = x at *
      obtain ⟨c, n⟩ := x
      dsimp only at *
      clear hn1 hc1 hc2
      have hal := (Below.refl wr.heap.size wr).alloc (Nat.le_refl _) (.cells #[.int .i64 c, .int .i64 n] 76)
      have X7 := hide (heap_new wr (.cells #[.int .i64 c, .int .i64 n] 76))
      have C7 := hide (CM.out.below hal)
      have L7 := hide (LM.out.below hal)
      have I7 := hide (IM.out.below hal)
      have Q0 := hide (cell_keep q0 hbd hal)
      have Q1 := hide (cell_keep q1 hbd hal)
      have B7 := hide (BM.out.trans (hal.mono BM.out.size))
      clear hal CM LM IM BM q0 q1 hbl hbd
      go_upto_region 7 with (fail)
      generalize wr.alloc (.cells #[.int .i64 c, .int .i64 n] 76) = w7 at *
      generalize wr.heap.size = q7 at *
      clear p0 p1
      have e0 := cell_of_block X7.out 0
      have e1 := cell_of_block X7.out 1
      have f0 := Q0.out
      have f1 := Q1.out
      go_quiet ((go_at_call 14; with_reducible exact quiet_eq (HG.out _ (C7.out.drewN _))))
      generalize hv : w7.drewN _ = v0
      have C8 := hide (show BooksIs N v0 p bm M from hv ▸ C7.out.drewN _)
      have L8 := hide (show LnIn v0 (some ⟨bl, off, none⟩) M from hv ▸ L7.out)
      have I8 := hide (show LnIn v0 (some ⟨bd, od, none⟩) M from hv ▸ I7.out)
      have B8 := hide (show Below w.heap.size w v0 from hv ▸ below_dn B7.out _)
      clear hv C7 L7 I7 B7 e0 e1 f0 f1 Q0 Q1 X7
      go_wp2_with fail
      go_roundw
      case rel => exact ⟨m + 1, by omega, by go_num, C8.out, L8.out, I8.out, B8.out⟩
      case measure => simp [intOf]; omega
    · obtain rfl : m = M.length := by omega
      go_wp2_with fail
      go_ret
      exact ⟨rfl, BM.out⟩
end Go.Proofs.Ytjnfmgbbhiklaaa
