import Derived.Test.YtbnbfnlfgmlcgaaRSale
import Derived.Test.YtbnbfnlfgmlcgaaRSale4
import Derived.Deep.CutBlock
import Derived.Test.YtbnbfnlfgmlcgaaPoW
import Derived.Test.YtbnbfnlfgmlcgaaCur6
/-
  Layer 25: the document's Find, weakly.
-/
--import Derived.Test.Zdbg
namespace Go.Proofs.Ytbnbfnlfgmlcgaa
set_option linter.unusedSimpArgs false
set_option linter.unusedVariables false
open Go.RowKit Go.WideShapes Go.ChangeShapes Go.ChangeAt Go.Deep
set_option maxRecDepth 100000 in
set_option maxHeartbeats 1000000 in
theorem rfind_weak (keep next n : Int) (a : Option Addr) (cp : Nat) (T : List TxA) (hT : T.length ≤ 1000) (w : World) (h : RegD w a cp T) :
    Calls Try.prog 28 #[regV keep next a T.length cp, .int .i64 n] w fun e w' => (∃ z : Int, e = .returned (.int .i64 z) ∧ -1 ≤ z ∧ z < (T.length : Int)) ∧ Below w.heap.size w w' := by
  unfold regV
  have hal := (Below.refl w.heap.size w).alloc (Nat.le_refl _) (.cells #[.int .i64 keep, .int .i64 next, .slice a T.length cp] 27)
  have X1 := hide (heap_new w (.cells #[.int .i64 keep, .int .i64 next, .slice a T.length cp] 27))
  have D1 := hide (h.below hal)
  have B1 := hide hal
  clear h hal
  go_enter Try.func28, Try.ntmps28
  go_upto_region 1 with (fail)
  generalize w.alloc (.cells #[.int .i64 keep, .int .i64 next, .slice a T.length cp] 27) = w1 at *
  obtain ⟨q, hq⟩ : ∃ q, w.heap.size = q := ⟨_, rfl⟩
  rw [hq] at X1 ⊢
  clear hq
  have c2 := cell_of_block X1.out 2
  have HC := hide D1.out.cap
  go_wp2_with fail
  go_loopw [5] (fun i W => ∃ j : Nat, j ≤ T.length ∧ i = .int .i64 j ∧ w1 = W) (fun i _ => T.length - (intOf i).toNat)
  case atStart => exact ⟨0, by omega, rfl, rfl⟩
  case round =>
    obtain ⟨j, hj, rfl, rfl⟩ := hrel
    by_cases hlt : j < T.length
    · obtain ⟨g, rfl, hgl, hc⟩ := D1.out.at j hlt
      have p0 := hc 0 (by decide)
      have hbd : IntKind.i64.wrap ((j : Int) + 1) = (j : Int) + 1 := by rw [IntKind.wrap_i64]; omega
      have hlti : (j : Int) < (T.length : Int) := by omega
      rw [show (txC (T.getD j ta0))[0]? = some (.int .i64 (T.getD j ta0).t.num) from rfl, Nat.add_zero] at p0
      generalize hyy : (T.getD j ta0).t.num = y at *
      clear hc hyy
      by_cases hy : y = n
      · subst hy
        go_wp2_with fail
        go_ret
        exact ⟨⟨_, rfl, by omega, by omega⟩, B1.out⟩
      · go_wp2_with fail
        go_roundw
        case rel => exact ⟨j + 1, by omega, by go_num, by first | trivial | rfl⟩
        case measure => simp [intOf]; omega
    · obtain rfl : j = T.length := by omega
      clear hlt
      go_wp2_with fail
      go_ret
      exact ⟨⟨_, rfl, by omega, by omega⟩, B1.out⟩
end Go.Proofs.Ytbnbfnlfgmlcgaa

/-
  Layer 25: the document's Add, weakly: some register, no longer than by one.
-/
--import Derived.Test.Zdbg
namespace Go.Proofs.Ytbnbfnlfgmlcgaa
set_option linter.unusedSimpArgs false
set_option linter.unusedVariables false
open Go.RowKit Go.WideShapes Go.ChangeShapes Go.ChangeAt Go.Deep

structure WkOk (t : TxM) : Prop where
  ok : TxOk t
  few : t.L.length ≤ 20
theorem WkOk.left {n k s r am le l : Int} {v u : Bool} {L : List LnM} (h : WkOk ⟨n, k, s, r, am, le, v, L⟩) (hl : inR l) : WkOk ⟨n, k, s, r, am, l, u, L⟩ := ⟨⟨h.ok.num, h.ok.kind, h.ok.shift, h.ok.ref, h.ok.amt, hl, h.ok.few, h.ok.L⟩, h.few⟩
theorem WkOk.num {n k s r am le m : Int} {v : Bool} {L : List LnM} (h : WkOk ⟨n, k, s, r, am, le, v, L⟩) (hm : inR m) : WkOk ⟨m, k, s, r, am, le, v, L⟩ := ⟨⟨hm, h.ok.kind, h.ok.shift, h.ok.ref, h.ok.amt, h.ok.left, h.ok.few, h.ok.L⟩, h.few⟩
def RAddIs (keep next : Int) (T : List TxA) (w : World) (e : Ending) (w' : World) : Prop :=
  ∃ (nx n er : Int) (a' : Option Addr) (cp' : Nat) (T' : List TxA), e = .returned (.tuple #[regV keep nx a' T'.length cp', .int .i64 n, .int .i64 er]) ∧ RegD w' a' cp' T' ∧ (∀ y ∈ T', WkOk y.t) ∧ T'.length ≤ T.length + 1 ∧ next ≤ nx ∧ nx ≤ next + 1 ∧ nx ≤ 4294967296 ∧ Below w.heap.size w w'
theorem th_below {w w1 w2 : World} {mb xb ob : Nat} {c1 c2 c3 : Array Value} {t1 t2 t3 : TypeId} {f1 f2 f3 : Nat × Nat} (h : w1.heap[mb]? = some (.cells c1 t1 f1) ∧ w1.heap[xb]? = some (.cells c2 t2 f2) ∧ w1.heap[ob]? = some (.cells c3 t3 f3) ∧ Below w.heap.size w w1) (hb : Below w1.heap.size w1 w2) :
    w2.heap[mb]? = some (.cells c1 t1 f1) ∧ w2.heap[xb]? = some (.cells c2 t2 f2) ∧ w2.heap[ob]? = some (.cells c3 t3 f3) ∧ Below w.heap.size w w2 :=
  ⟨(hb.block _ (heap_lt h.1)).trans h.1, (hb.block _ (heap_lt h.2.1)).trans h.2.1, (hb.block _ (heap_lt h.2.2.1)).trans h.2.2.1, h.2.2.2.trans (hb.mono h.2.2.2.size)⟩
theorem th_set {w w1 : World} {mb xb ob tb : Nat} {c1 c2 c3 : Array Value} {t1 t2 t3 : TypeId} {f1 f2 f3 : Nat × Nat} (h : w1.heap[mb]? = some (.cells c1 t1 f1) ∧ w1.heap[xb]? = some (.cells c2 t2 f2) ∧ w1.heap[ob]? = some (.cells c3 t3 f3) ∧ Below w.heap.size w w1) (ht : tb ≠ mb ∧ tb ≠ xb ∧ tb ≠ ob) (hq : w.heap.size ≤ tb) (j : Nat) (v : Value) :
    (w1.setCell ⟨tb, j, none⟩ v).heap[mb]? = some (.cells c1 t1 f1) ∧ (w1.setCell ⟨tb, j, none⟩ v).heap[xb]? = some (.cells c2 t2 f2) ∧ (w1.setCell ⟨tb, j, none⟩ v).heap[ob]? = some (.cells c3 t3 f3) ∧ Below w.heap.size w (w1.setCell ⟨tb, j, none⟩ v) :=
  ⟨(block_setCell_other ht.1 j v).trans h.1, (block_setCell_other ht.2.1 j v).trans h.2.1, (block_setCell_other ht.2.2 j v).trans h.2.2.1, h.2.2.2.setCell (p := ⟨tb, j, none⟩) hq v⟩
theorem th_low {w w1 w2 : World} {B mb xb ob : Nat} {c1 c2 c3 : Array Value} {t1 t2 t3 : TypeId} {f1 f2 f3 : Nat × Nat} (h : w1.heap[mb]? = some (.cells c1 t1 f1) ∧ w1.heap[xb]? = some (.cells c2 t2 f2) ∧ w1.heap[ob]? = some (.cells c3 t3 f3) ∧ Below w.heap.size w w1) (hb : Below B w1 w2) (hB : mb < B ∧ xb < B ∧ ob < B) (hq : w.heap.size ≤ B) :
    w2.heap[mb]? = some (.cells c1 t1 f1) ∧ w2.heap[xb]? = some (.cells c2 t2 f2) ∧ w2.heap[ob]? = some (.cells c3 t3 f3) ∧ Below w.heap.size w w2 :=
  ⟨(hb.block _ hB.1).trans h.1, (hb.block _ hB.2.1).trans h.2.1, (hb.block _ hB.2.2).trans h.2.2.1, h.2.2.2.trans (hb.mono hq)⟩
theorem setCell_sz (w : World) (a : Addr) (v : Value) : (w.setCell a v).heap.size = w.heap.size := by simp [World.setCell]
theorem put_none (a : Act) (v : Value) : a.put none v = a := rfl
theorem wrapI_in (x : Int) : inR (wrap64 x) := by unfold inR wrap64; omega
set_option maxRecDepth 100000 in
set_option maxHeartbeats 16000000 in
theorem radd_weak (keep next : Int) (hnx : 1 ≤ next ∧ next ≤ 4294967296) (a : Option Addr) (cp : Nat) (T : List TxA) (hT : T.length ≤ 500) (x : TxA) (hx : WkOk x.t) (w : World) (h : RegD w a cp T) (hW : ∀ y ∈ T, WkOk y.t) (hin : LnTy 87 0 w x.la x.t.L) :
    Calls Try.prog 8 #[regV keep next a T.length cp, txV x] w (RAddIs keep next T w) := by
  obtain ⟨i0, hi, hz0, hz1, hz2⟩ := info_parts (show (Try.prog.info? 38).map (fun i => (i.zero, i.size, i.bytes)) = some (some (.agg #[.int .i64 0, .int .u8 0, .int .i64 0, .int .i64 0, .int .i64 0, .int .i64 0, .bool false, .slice none 0 0]), 8, 80) by kernel_rfl)
  have HI := hide hi
  have HZ0 := hide hz0
  have HZ1 := hide hz1
  have HZ2 := hide hz2
  clear hi hz0 hz1 hz2
  obtain ⟨⟨num, k, s, r, am, le, vb, LL⟩, xa, xc⟩ := x
  have HRG := hide (fun W (hi : LnIn W xa LL) => rright_any ⟨⟨num, k, s, r, am, le, vb, LL⟩, xa, xc⟩ hx.ok W hi)
  have HFI := hide (fun W (h9 : RegD W a cp T) => rfind_weak keep next r a cp T (by omega) W h9)
  have HDM := hide (fun W (hb : Below w.heap.size w W) => h.below hb)
  have HXM := hide (fun W (hb : Below w.heap.size w W) => hin.below hb)
  have HWK := hide hW
  have HXK := hide hx
  have HTL := hide hT
  have HCP := hide h.cap
  have HEX := hide (fun W (hb : Below w.heap.size w W) er => (show RAddIs keep next T w (.returned (.tuple #[regV keep next a T.length cp, .int .i64 0, .int .i64 er])) W from ⟨next, 0, er, a, cp, T, rfl, h.below hb, hW, Nat.le_succ _, Int.le_refl _, by omega, hnx.2, hb⟩))
  have HLN := hide h.lines
  have HXL := hide hin
  have HLT := hide (fun y hy W (hb : Below w.heap.size w W) => (h.lines y hy).below hb)
  have hnx1 := hnx.1
  have hnx2 := hnx.2
  clear hT hx h hW hin hnx
  unfold txV txC regV at *
  dsimp only at *
  obtain ⟨o1, ho1⟩ : ∃ ob, ob = (Obj.cells #[.int .i64 keep, .int .i64 next, .slice a T.length cp] 27) := ⟨_, rfl⟩
  obtain ⟨o2, ho2⟩ : ∃ ob, ob = (Obj.cells #[.int .i64 num, .int .u8 k, .int .i64 s, .int .i64 r, .int .i64 am, .int .i64 le, .bool vb, .slice xa LL.length xc] 38) := ⟨_, rfl⟩
  obtain ⟨o3, ho3⟩ : ∃ ob, ob = (Obj.cells #[.int .i64 0, .int .i64 0, .slice none 0 0] 27) := ⟨_, rfl⟩
  have s1 : (w.alloc o1).heap.size = w.heap.size + 1 := by simp
  have s2 : ((w.alloc o1).alloc o2).heap.size = w.heap.size + 2 := by simp
  have n1 := heap_new w o1
  have n2 := heap_new (w.alloc o1) o2
  rw [s1] at n2
  have n3 := heap_new ((w.alloc o1).alloc o2) o3
  rw [s2] at n3
  have H3 := hide (show (((w.alloc o1).alloc o2).alloc o3).heap[w.heap.size]? = some (.cells #[.int .i64 keep, .int .i64 next, .slice a T.length cp] 27 (0, 0)) ∧ (((w.alloc o1).alloc o2).alloc o3).heap[w.heap.size + 1]? = some (.cells #[.int .i64 num, .int .u8 k, .int .i64 s, .int .i64 r, .int .i64 am, .int .i64 le, .bool vb, .slice xa LL.length xc] 38 (0, 0)) ∧ (((w.alloc o1).alloc o2).alloc o3).heap[w.heap.size + 1 + 1]? = some (.cells #[.int .i64 0, .int .i64 0, .slice none 0 0] 27 (0, 0)) ∧ Below w.heap.size w (((w.alloc o1).alloc o2).alloc o3) from
    ⟨by rw [heap_old _ _ _ (by omega), heap_old _ _ _ (by omega), n1, ho1], by rw [heap_old _ _ _ (by omega), n2, ho2], by rw [n3, ho3], (((Below.refl _ w).alloc (by omega) o1).alloc (by omega) o2).alloc (by omega) o3⟩)
  clear n1 n2 n3 s1 s2
  go_enter Try.func8, Try.ntmps8
  go_upto_region 1 with (fail)
  rw [← ho1, ← ho2, ← ho3]
  generalize ((w.alloc o1).alloc o2).alloc o3 = w3 at *
  clear ho1 ho2 ho3 o1 o2 o3
  obtain ⟨mb, hmb⟩ : ∃ k, w.heap.size = k := ⟨_, rfl⟩
  obtain ⟨xb, hxb⟩ : ∃ k, mb + 1 = k := ⟨_, rfl⟩
  obtain ⟨ob, hob⟩ : ∃ k, xb + 1 = k := ⟨_, rfl⟩
  have HMB := hide hmb
  rw [show w.heap.size + 1 + 1 = ob by omega, show w.heap.size + 1 = xb by omega] at H3
  have H3 := hide (show w3.heap[mb]? = some (.cells #[.int .i64 keep, .int .i64 next, .slice a T.length cp] 27 (0, 0)) ∧ w3.heap[xb]? = some (.cells #[.int .i64 num, .int .u8 k, .int .i64 s, .int .i64 r, .int .i64 am, .int .i64 le, .bool vb, .slice xa LL.length xc] 38 (0, 0)) ∧ w3.heap[ob]? = some (.cells #[.int .i64 0, .int .i64 0, .slice none 0 0] 27 (0, 0)) ∧ Below w.heap.size w w3 from by have h3 := H3.out; rw [hmb] at h3 ⊢; exact h3)
  rw [hmb] at ⊢
  rw [hxb] at ⊢
  try rw [hob] at ⊢
  have HOB := hide (show w.heap.size ≤ ob by omega)
  have HNE := hide (show xb ≠ ob ∧ mb ≠ xb ∧ mb ≠ ob by omega)
  have HXB := hide (show w.heap.size ≤ xb by omega)
  clear hmb hxb hob
  obtain ⟨hm, hx9, ho, hb⟩ := H3.out
  have HLX := hide ((HXM.out _ hb).lnIn)
  go_wp2_with (refine rw_load rfl 38 (.tmp 3) rfl xb rfl 38 #[.int .i64 num, .int .u8 k, .int .i64 s, .int .i64 r, .int .i64 am, .int .i64 le, .bool vb, .slice xa LL.length xc] (0, 0) _ hx9 Try.underlying38 rfl (by kernel_rfl) ?_)
  refine (HRG.out _ HLX.out).mono ?_
  rintro e w4 ⟨rfl, hb4⟩
  clear hm hx9 ho hb HLX HRG
  have H4 := hide (th_below H3.out hb4)
  clear hb4 H3
  generalize rightT ⟨num, k, s, r, am, le, vb, LL⟩ = rt at *
  cases rt with
  | false =>
    as_aux_lemma =>
      obtain ⟨hm, hx9, ho, hb⟩ := H4.out
      go_wp2_with (first | (refine rw_load rfl 27 (.tmp 2) rfl mb rfl 27 #[.int .i64 keep, .int .i64 next, .slice a T.length cp] (0, 0) _ hm Try.underlying27 rfl (by kernel_rfl) ?_) | (refine rw_store rfl 27 (.tmp 4) (.tmp 18) rfl ob rfl #[.int .i64 keep, .int .i64 next, .slice a T.length cp] rfl _ ho (by kernel_rfl) rfl (by simp [Value.oneCell']) ?_))
      have XF := setRow_same (cs := #[.int .i64 keep, .int .i64 next, .slice a T.length cp]) ho
      have BF := setRow_below hb HOB.out hb.size #[.int .i64 keep, .int .i64 next, .slice a T.length cp]
      (try simp only [Exit.inBlock, Exit.then])
      refine bodyPost_ret (res_ctt (P := Try.prog) rfl _ _ ob 27 #[.int .i64 keep, .int .i64 next, .slice a T.length cp] (0, 0) _ rfl XF Try.underlying27 rfl (by kernel_rfl)) rfl ?_
      exact HEX.out _ BF 2
  | true =>
    obtain ⟨hm, hx9, ho, hb⟩ := H4.out
    have HD := hide (HDM.out _ hb)
    have d3 := cell_of_block hx9 3
    go_wp2_with (refine rw_load rfl 27 (.tmp 2) rfl mb rfl 27 #[.int .i64 keep, .int .i64 next, .slice a T.length cp] (0, 0) _ hm Try.underlying27 rfl (by kernel_rfl) ?_)
    refine (HFI.out _ HD.out).mono ?_
    rintro e w5 ⟨⟨z, rfl, hz1, hz2⟩, hb5⟩
    clear hm hx9 ho hb d3 HD HFI
    have H5 := hide (th_below H4.out hb5)
    have HZ := hide (And.intro hz1 hz2)
    clear hb5 H4 hz1 hz2
    go_upto_region 5 with (fail)
    have d1 := cell_of_block H5.out.2.1 1
    go_cut [9] from 23 to 31 (fun s9 W => (∃ b, s9 = .bool b) ∧ W = w5)
    case first =>
      by_cases hk2 : k = 2
      · subst hk2
        go_wp2_with fail
        go_meet
        exact ⟨⟨_, rfl⟩, rfl⟩
      · by_cases hk3 : k = 3
        · subst hk3
          go_wp2_with fail
          go_meet
          exact ⟨⟨_, rfl⟩, rfl⟩
        · have g2 : (k == 2) = false := beq_eq_false_iff_ne.mpr hk2
          have g3 : (k == 3) = false := beq_eq_false_iff_ne.mpr hk3
          go_wp2_with fail
          go_meet
          exact ⟨⟨_, rfl⟩, rfl⟩
    case rest =>
    obtain ⟨⟨bk, rfl⟩, rfl⟩ := hcut
    clear d1
    go_upto_if 31 with (fail)
    go_cut [] from 32 to 78 (fun W => W.heap[mb]? = some (.cells #[.int .i64 keep, .int .i64 next, .slice a T.length cp] 27 (0, 0)) ∧ W.heap[xb]? = some (.cells #[.int .i64 num, .int .u8 k, .int .i64 s, .int .i64 r, .int .i64 am, .int .i64 le, .bool vb, .slice xa LL.length xc] 38 (0, 0)) ∧ W.heap[ob]? = some (.cells #[.int .i64 0, .int .i64 0, .slice none 0 0] 27 (0, 0)) ∧ Below w.heap.size w W)
    case first =>
      cases bk with
      | false =>
        go_wp2_with fail
        go_meet
        exact H5.out
      | true =>
        by_cases hz : z < 0
        · have g0 : decide (z < 0) = true := decide_eq_true hz
          as_aux_lemma =>
            go_upto_region 8 with (fail)
            obtain ⟨hm, hx9, ho, hb⟩ := H5.out
            go_wp2_with (first | (refine rw_load rfl 27 (.tmp 2) rfl mb rfl 27 #[.int .i64 keep, .int .i64 next, .slice a T.length cp] (0, 0) _ hm Try.underlying27 rfl (by kernel_rfl) ?_) | (refine rw_store rfl 27 (.tmp 4) (.tmp 43) rfl ob rfl #[.int .i64 keep, .int .i64 next, .slice a T.length cp] rfl _ ho (by kernel_rfl) rfl (by simp [Value.oneCell']) ?_))
            have XF := setRow_same (cs := #[.int .i64 keep, .int .i64 next, .slice a T.length cp]) ho
            have BF := setRow_below hb HOB.out hb.size #[.int .i64 keep, .int .i64 next, .slice a T.length cp]
            (try simp only [Exit.inBlock, Exit.then])
            refine bodyPost_ret (res_ctt (P := Try.prog) rfl _ _ ob 27 #[.int .i64 keep, .int .i64 next, .slice a T.length cp] (0, 0) _ rfl XF Try.underlying27 rfl (by kernel_rfl)) rfl ?_
            exact HEX.out _ BF 15
        · have g0 : decide (z < 0) = false := decide_eq_false hz
          obtain ⟨i, hi⟩ : ∃ i : Nat, z = (i : Int) := ⟨z.toNat, by omega⟩
          have HIL := hide (show i < T.length by have := HZ.out.2; omega)
          obtain ⟨g, ha, hgl, hc⟩ := (HDM.out _ H5.out.2.2.2).at i HIL.out
          have HYK := hide (HWK.out (T.getD i ta0) (by have := HIL.out; simp [List.getD, this]))
          subst hi
          have HA := hide ha
          clear ha
          generalize T.getD i ta0 = yy at *
          obtain ⟨⟨n1, k1, s1, r1, am1, le1, v1, L1⟩, la1, lc1⟩ := yy
          (try dsimp only at HYK)
          (try dsimp only at HYL)
          have y0 : wc.cell? ⟨g, i * 8, none⟩ = some (.int .i64 n1) := hc 0 (by decide)
          have y1 : wc.cell? ⟨g, i * 8 + 1, none⟩ = some (.int .u8 k1) := hc 1 (by decide)
          have y2 : wc.cell? ⟨g, i * 8 + 2, none⟩ = some (.int .i64 s1) := hc 2 (by decide)
          have y3 : wc.cell? ⟨g, i * 8 + 3, none⟩ = some (.int .i64 r1) := hc 3 (by decide)
          have y4 : wc.cell? ⟨g, i * 8 + 4, none⟩ = some (.int .i64 am1) := hc 4 (by decide)
          have y5 : wc.cell? ⟨g, i * 8 + 5, none⟩ = some (.int .i64 le1) := hc 5 (by decide)
          have y6 : wc.cell? ⟨g, i * 8 + 6, none⟩ = some (.bool v1) := hc 6 (by decide)
          have y7 : wc.cell? ⟨g, i * 8 + 7, none⟩ = some (.slice la1 L1.length lc1) := hc 7 (by decide)
          have m2 := cell_of_block H5.out.1 2
          rw [show (#[.int .i64 keep, .int .i64 next, .slice a T.length cp] : Array Value)[2]? = some (.slice a T.length cp) from rfl, HA.out] at m2
          have hlt : (i : Int) < (T.length : Int) := by have := HIL.out; omega
          clear hc
          by_cases hk1 : k1 = 1
          · subst hk1
            go_upto_region 9 with (fail)
            go_upto_region 10 with (refine rw_store rfl 38 (.tmp 10) (.tmp 48) rfl wc.heap.size rfl #[.int .i64 n1, .int .u8 1, .int .i64 s1, .int .i64 r1, .int .i64 am1, .int .i64 le1, .bool v1, .slice la1 L1.length lc1] rfl _ (heap_new wc (.cells #[.int .i64 0, .int .u8 0, .int .i64 0, .int .i64 0, .int .i64 0, .int .i64 0, .bool false, .slice none 0 0] 38)) (by kernel_rfl) rfl (by simp [Value.oneCell']) ?_)
            have XB := hide (heap_new wc (.cells #[.int .i64 0, .int .u8 0, .int .i64 0, .int .i64 0, .int .i64 0, .int .i64 0, .bool false, .slice none 0 0] 38))
            have hal := (Below.refl wc.heap.size wc).alloc (Nat.le_refl _) (.cells #[.int .i64 0, .int .u8 0, .int .i64 0, .int .i64 0, .int .i64 0, .int .i64 0, .bool false, .slice none 0 0] 38)
            have hbb := setRow_below (hal.trans (Below.refl _ _)) (Nat.le_refl _) hal.size (#[.int .i64 n1, .int .u8 1, .int .i64 s1, .int .i64 r1, .int .i64 am1, .int .i64 le1, .bool v1, .slice la1 L1.length lc1] : Array Value)
            have XT := hide (setRow_same (cs := (#[.int .i64 n1, .int .u8 1, .int .i64 s1, .int .i64 r1, .int .i64 am1, .int .i64 le1, .bool v1, .slice la1 L1.length lc1] : Array Value)) XB.out)
            have H6 := hide (th_below H5.out hbb)
            clear hal hbb XB y0 y1 y2 y3 y4 y5 y6 y7 m2 hlt g0 H5
            generalize (wc.alloc (.cells #[.int .i64 0, .int .u8 0, .int .i64 0, .int .i64 0, .int .i64 0, .int .i64 0, .bool false, .slice none 0 0] 38)).setRow wc.heap.size (#[.int .i64 n1, .int .u8 1, .int .i64 s1, .int .i64 r1, .int .i64 am1, .int .i64 le1, .bool v1, .slice la1 L1.length lc1] : Array Value) = w6 at *
            generalize wc.heap.size = tb at *
            have y4 := cell_of_block XT.out 4
            have y5 := cell_of_block XT.out 5
            have y6 := cell_of_block XT.out 6
            have x1 := cell_of_block H6.out.2.1 1
            have x4 := cell_of_block H6.out.2.1 4
            cases v1 with
            | true =>
              as_aux_lemma =>
                go_upto_region 11 with (fail)
                obtain ⟨hm, hx9, ho, hb⟩ := H6.out
                go_wp2_with (first | (refine rw_load rfl 27 (.tmp 2) rfl mb rfl 27 #[.int .i64 keep, .int .i64 next, .slice a T.length cp] (0, 0) _ hm Try.underlying27 rfl (by kernel_rfl) ?_) | (refine rw_store rfl 27 (.tmp 4) (.tmp 51) rfl ob rfl #[.int .i64 keep, .int .i64 next, .slice a T.length cp] rfl _ ho (by kernel_rfl) rfl (by simp [Value.oneCell']) ?_))
                have XF := setRow_same (cs := #[.int .i64 keep, .int .i64 next, .slice a T.length cp]) ho
                have BF := setRow_below hb HOB.out hb.size #[.int .i64 keep, .int .i64 next, .slice a T.length cp]
                (try simp only [Exit.inBlock, Exit.then])
                refine bodyPost_ret (res_ctt (P := Try.prog) rfl _ _ ob 27 #[.int .i64 keep, .int .i64 next, .slice a T.length cp] (0, 0) _ rfl XF Try.underlying27 rfl (by kernel_rfl)) rfl ?_
                exact HEX.out _ BF 21
            | false =>
              by_cases hk2 : k = 2
              · subst hk2
                by_cases h3 : le1 = am1
                · have g3 : (le1 != am1) = false := by rw [bne_eq_false_iff_eq]; exact h3
                  have HLA := hide h3
                  clear h3
                  by_cases h4 : am = am1
                  · have g4 : (am != am1) = false := by rw [bne_eq_false_iff_eq]; exact h4
                    clear h4
                    go_wp2_with fail
                    go_meet
                    exact H6.out
                  · have g4 : (am != am1) = true := bne_iff_ne.mpr h4
                    clear h4
                    as_aux_lemma =>
                      go_upto_region 16 with (fail)
                      obtain ⟨hm, hx9, ho, hb⟩ := H6.out
                      go_wp2_with (first | (refine rw_load rfl 27 (.tmp 2) rfl mb rfl 27 #[.int .i64 keep, .int .i64 next, .slice a T.length cp] (0, 0) _ hm Try.underlying27 rfl (by kernel_rfl) ?_) | (refine rw_store rfl 27 (.tmp 4) (.tmp 66) rfl ob rfl #[.int .i64 keep, .int .i64 next, .slice a T.length cp] rfl _ ho (by kernel_rfl) rfl (by simp [Value.oneCell']) ?_))
                      have XF := setRow_same (cs := #[.int .i64 keep, .int .i64 next, .slice a T.length cp]) ho
                      have BF := setRow_below hb HOB.out hb.size #[.int .i64 keep, .int .i64 next, .slice a T.length cp]
                      (try simp only [Exit.inBlock, Exit.then])
                      refine bodyPost_ret (res_ctt (P := Try.prog) rfl _ _ ob 27 #[.int .i64 keep, .int .i64 next, .slice a T.length cp] (0, 0) _ rfl XF Try.underlying27 rfl (by kernel_rfl)) rfl ?_
                      exact HEX.out _ BF 2
                · have g3 : (le1 != am1) = true := bne_iff_ne.mpr h3
                  clear h3
                  as_aux_lemma =>
                    go_upto_region 14 with (fail)
                    obtain ⟨hm, hx9, ho, hb⟩ := H6.out
                    go_wp2_with (first | (refine rw_load rfl 27 (.tmp 2) rfl mb rfl 27 #[.int .i64 keep, .int .i64 next, .slice a T.length cp] (0, 0) _ hm Try.underlying27 rfl (by kernel_rfl) ?_) | (refine rw_store rfl 27 (.tmp 4) (.tmp 60) rfl ob rfl #[.int .i64 keep, .int .i64 next, .slice a T.length cp] rfl _ ho (by kernel_rfl) rfl (by simp [Value.oneCell']) ?_))
                    have XF := setRow_same (cs := #[.int .i64 keep, .int .i64 next, .slice a T.length cp]) ho
                    have BF := setRow_below hb HOB.out hb.size #[.int .i64 keep, .int .i64 next, .slice a T.length cp]
                    (try simp only [Exit.inBlock, Exit.then])
                    refine bodyPost_ret (res_ctt (P := Try.prog) rfl _ _ ob 27 #[.int .i64 keep, .int .i64 next, .slice a T.length cp] (0, 0) _ rfl XF Try.underlying27 rfl (by kernel_rfl)) rfl ?_
                    exact HEX.out _ BF 22
              · by_cases hk3 : k = 3
                · subst hk3
                  by_cases h4 : am > le1
                  · have g4 : decide (am > le1) = true := decide_eq_true h4
                    as_aux_lemma =>
                      go_upto_region 18 with (fail)
                      obtain ⟨hm, hx9, ho, hb⟩ := H6.out
                      go_wp2_with (first | (refine rw_load rfl 27 (.tmp 2) rfl mb rfl 27 #[.int .i64 keep, .int .i64 next, .slice a T.length cp] (0, 0) _ hm Try.underlying27 rfl (by kernel_rfl) ?_) | (refine rw_store rfl 27 (.tmp 4) (.tmp 77) rfl ob rfl #[.int .i64 keep, .int .i64 next, .slice a T.length cp] rfl _ ho (by kernel_rfl) rfl (by simp [Value.oneCell']) ?_))
                      have XF := setRow_same (cs := #[.int .i64 keep, .int .i64 next, .slice a T.length cp]) ho
                      have BF := setRow_below hb HOB.out hb.size #[.int .i64 keep, .int .i64 next, .slice a T.length cp]
                      (try simp only [Exit.inBlock, Exit.then])
                      refine bodyPost_ret (res_ctt (P := Try.prog) rfl _ _ ob 27 #[.int .i64 keep, .int .i64 next, .slice a T.length cp] (0, 0) _ rfl XF Try.underlying27 rfl (by kernel_rfl)) rfl ?_
                      exact HEX.out _ BF 22
                  · have g4 : decide (am > le1) = false := decide_eq_false h4
                    go_wp2_with fail
                    go_meet
                    exact H6.out
                · have g2 : (k == 2) = false := beq_eq_false_iff_ne.mpr hk2
                  have g3 : (k == 3) = false := beq_eq_false_iff_ne.mpr hk3
                  go_wp2_with fail
                  go_meet
                  exact H6.out
          · have g1 : (k1 != 1) = true := bne_iff_ne.mpr hk1
            as_aux_lemma =>
              go_upto_region 8 with (fail)
              obtain ⟨hm, hx9, ho, hb⟩ := H5.out
              go_wp2_with (first | (refine rw_load rfl 27 (.tmp 2) rfl mb rfl 27 #[.int .i64 keep, .int .i64 next, .slice a T.length cp] (0, 0) _ hm Try.underlying27 rfl (by kernel_rfl) ?_) | (refine rw_store rfl 27 (.tmp 4) (.tmp 43) rfl ob rfl #[.int .i64 keep, .int .i64 next, .slice a T.length cp] rfl _ ho (by kernel_rfl) rfl (by simp [Value.oneCell']) ?_))
              have XF := setRow_same (cs := #[.int .i64 keep, .int .i64 next, .slice a T.length cp]) ho
              have BF := setRow_below hb HOB.out hb.size #[.int .i64 keep, .int .i64 next, .slice a T.length cp]
              (try simp only [Exit.inBlock, Exit.then])
              refine bodyPost_ret (res_ctt (P := Try.prog) rfl _ _ ob 27 #[.int .i64 keep, .int .i64 next, .slice a T.length cp] (0, 0) _ rfl XF Try.underlying27 rfl (by kernel_rfl)) rfl ?_
              exact HEX.out _ BF 15
    case rest =>
    have H6 := hide hcut
    clear hcut H5
    have m0 := cell_of_block H6.out.1 0
    have m1 := cell_of_block H6.out.1 1
    by_cases hn : next > 4294967295
    · have g0 : decide (next > 4294967295) = true := decide_eq_true hn
      as_aux_lemma =>
        go_upto_region 20 with (fail)
        obtain ⟨hm, hx9, ho, hb⟩ := H6.out
        go_wp2_with (first | (refine rw_load rfl 27 (.tmp 2) rfl mb rfl 27 #[.int .i64 keep, .int .i64 next, .slice a T.length cp] (0, 0) _ hm Try.underlying27 rfl (by kernel_rfl) ?_) | (refine rw_store rfl 27 (.tmp 4) (.tmp 81) rfl ob rfl #[.int .i64 keep, .int .i64 next, .slice a T.length cp] rfl _ ho (by kernel_rfl) rfl (by simp [Value.oneCell']) ?_))
        have XF := setRow_same (cs := #[.int .i64 keep, .int .i64 next, .slice a T.length cp]) ho
        have BF := setRow_below hb HOB.out hb.size #[.int .i64 keep, .int .i64 next, .slice a T.length cp]
        (try simp only [Exit.inBlock, Exit.then])
        refine bodyPost_ret (res_ctt (P := Try.prog) rfl _ _ ob 27 #[.int .i64 keep, .int .i64 next, .slice a T.length cp] (0, 0) _ rfl XF Try.underlying27 rfl (by kernel_rfl)) rfl ?_
        exact HEX.out _ BF 7
    have g0 : decide (next > 4294967295) = false := decide_eq_false hn
    have hw1 : IntKind.i64.wrap (next + 1) = next + 1 := by rw [IntKind.wrap_i64]; omega
    have hw2 : wrap64 (next + 1) = next + 1 := by unfold wrap64; omega
    have HNI := hide (show inR next ∧ 1 ≤ next ∧ next + 1 ≤ 4294967296 from ⟨by unfold inR; omega, hnx1, by omega⟩)
    clear hnx1 hnx2 hn
    go_upto_region 22 with (refine rw_store rfl 27 (.tmp 11) (.tmp 87) rfl wc.heap.size rfl #[.int .i64 keep, .int .i64 (next + 1), .slice none 0 0] rfl _ (heap_new wc (.cells #[.int .i64 0, .int .i64 0, .slice none 0 0] 27)) (by kernel_rfl) rfl (by simp [Value.oneCell']) ?_)
    have XB := hide (heap_new wc (.cells #[.int .i64 0, .int .i64 0, .slice none 0 0] 27))
    have hal := (Below.refl wc.heap.size wc).alloc (Nat.le_refl _) (.cells #[.int .i64 0, .int .i64 0, .slice none 0 0] 27)
    have hbb := setRow_below (hal.trans (Below.refl _ _)) (Nat.le_refl _) hal.size (#[.int .i64 keep, .int .i64 (next + 1), .slice none 0 0] : Array Value)
    have XN7 := hide (setRow_same (cs := (#[.int .i64 keep, .int .i64 (next + 1), .slice none 0 0] : Array Value)) XB.out)
    have H7 := hide (th_below H6.out hbb)
    have HNB := hide (show w.heap.size ≤ wc.heap.size ∧ wc.heap.size ≠ mb ∧ wc.heap.size ≠ xb ∧ wc.heap.size ≠ ob from by have h1 := heap_lt H6.out.1; have h2 := heap_lt H6.out.2.1; have h3 := heap_lt H6.out.2.2.1; have h4 := H6.out.2.2.2.size; omega)
    clear hal hbb XB H6 m0 m1 g0 hw1 hw2
    generalize (wc.alloc (.cells #[.int .i64 0, .int .i64 0, .slice none 0 0] 27)).setRow wc.heap.size (#[.int .i64 keep, .int .i64 (next + 1), .slice none 0 0] : Array Value) = w7 at *
    generalize wc.heap.size = nb at *
    obtain ⟨qb, hqb⟩ : ∃ k, w7.heap.size = k := ⟨_, rfl⟩
    have HQB := hide (show (mb < qb ∧ xb < qb ∧ ob < qb) ∧ nb < qb ∧ w.heap.size ≤ qb from by have h1 := heap_lt H7.out.1; have h2 := heap_lt H7.out.2.1; have h3 := heap_lt H7.out.2.2.1; have h4 := heap_lt XN7.out; have h5 := H7.out.2.2.2.size; omega)
    have HSQ := hide (show qb ≤ w7.heap.size from by omega)
    clear hqb
    go_wp2_with fail
    go_loopw [12] (fun i W => ∃ (j n2 : Nat) (T2 : List TxA) (a2 : Option Addr) (c2 : Nat), j ≤ T.length ∧ i = .int .i64 j ∧ n2 ≤ j ∧ T2.length = n2 ∧ W.heap[nb]? = some (.cells #[.int .i64 keep, .int .i64 (next + 1), .slice a2 n2 c2] 27 (0, 0)) ∧ (W.heap[mb]? = some (.cells #[.int .i64 keep, .int .i64 next, .slice a T.length cp] 27 (0, 0)) ∧ W.heap[xb]? = some (.cells #[.int .i64 num, .int .u8 k, .int .i64 s, .int .i64 r, .int .i64 am, .int .i64 le, .bool vb, .slice xa LL.length xc] 38 (0, 0)) ∧ W.heap[ob]? = some (.cells #[.int .i64 0, .int .i64 0, .slice none 0 0] 27 (0, 0)) ∧ Below w.heap.size w W) ∧ W.ownsRow qb 38 8 (.slice a2 n2 c2) n2 (T2.flatMap txC) ∧ (∀ y ∈ T2, WkOk y.t ∧ LnTy 87 0 w y.la y.t.L) ∧ qb ≤ W.heap.size) (fun i _ => T.length - (intOf i).toNat)
    case atStart => exact ⟨0, 0, [], none, 0, by omega, rfl, Nat.le_refl _, rfl, XN7.out, H7.out, World.ownsRow_nil _ _ _ _, (fun y hy => by cases hy), HSQ.out⟩
    case round =>
    obtain ⟨j, n2, T2, a2, c2, hj, rfl, hn2, hT2, hxn, h3, hO, hK, hsq⟩ := hrel
    have XN8 := hide hxn
    have H8 := hide h3
    have O8 := hide hO
    have K8 := hide hK
    have HT2 := hide hT2
    have HN2 := hide (show n2 ≤ 500 from by have := HTL.out; omega)
    have HNJ := hide hn2
    have HSZ8 := hide hsq
    clear hxn h3 hO hK hT2 hn2 hsq XN7 H7 HSQ
    have m2 := cell_of_block H8.out.1 2
    by_cases hlt : j < T.length
    · have HJL := hide hlt
      obtain ⟨g, ha, hgl, hc⟩ := (HDM.out _ H8.out.2.2.2).at j hlt
      have HYM := hide (show T.getD j ta0 ∈ T by simp [List.getD, hlt])
      have HYK := hide (HWK.out (T.getD j ta0) HYM.out)
      have HYL := hide (HLN.out (T.getD j ta0) HYM.out)
      rw [show (#[.int .i64 keep, .int .i64 next, .slice a T.length cp] : Array Value)[2]? = some (.slice a T.length cp) from rfl, ha] at m2
      have HA := hide ha
      clear ha
      have hlti : (j : Int) < (T.length : Int) := by omega
      clear HYM
      generalize T.getD j ta0 = yy at *
      obtain ⟨⟨n1, k1, s1, r1, am1, le1, v1, L1⟩, la1, lc1⟩ := yy
      (try dsimp only at HYK)
      (try dsimp only at HYL)
      have y0 : wr.cell? ⟨g, j * 8, none⟩ = some (.int .i64 n1) := hc 0 (by decide)
      have y1 : wr.cell? ⟨g, j * 8 + 1, none⟩ = some (.int .u8 k1) := hc 1 (by decide)
      have y2 : wr.cell? ⟨g, j * 8 + 2, none⟩ = some (.int .i64 s1) := hc 2 (by decide)
      have y3 : wr.cell? ⟨g, j * 8 + 3, none⟩ = some (.int .i64 r1) := hc 3 (by decide)
      have y4 : wr.cell? ⟨g, j * 8 + 4, none⟩ = some (.int .i64 am1) := hc 4 (by decide)
      have y5 : wr.cell? ⟨g, j * 8 + 5, none⟩ = some (.int .i64 le1) := hc 5 (by decide)
      have y6 : wr.cell? ⟨g, j * 8 + 6, none⟩ = some (.bool v1) := hc 6 (by decide)
      have y7 : wr.cell? ⟨g, j * 8 + 7, none⟩ = some (.slice la1 L1.length lc1) := hc 7 (by decide)
      clear hc hlt
      go_upto_region 26 with (refine rw_store rfl 38 (.tmp 13) (.tmp 99) rfl wr.heap.size rfl #[.int .i64 n1, .int .u8 k1, .int .i64 s1, .int .i64 r1, .int .i64 am1, .int .i64 le1, .bool v1, .slice la1 L1.length lc1] rfl _ (heap_new wr (.cells #[.int .i64 0, .int .u8 0, .int .i64 0, .int .i64 0, .int .i64 0, .int .i64 0, .bool false, .slice none 0 0] 38)) (by kernel_rfl) rfl (by simp [Value.oneCell']) ?_)
      have XB := hide (heap_new wr (.cells #[.int .i64 0, .int .u8 0, .int .i64 0, .int .i64 0, .int .i64 0, .int .i64 0, .bool false, .slice none 0 0] 38))
      have hal := (Below.refl wr.heap.size wr).alloc (Nat.le_refl _) (.cells #[.int .i64 0, .int .u8 0, .int .i64 0, .int .i64 0, .int .i64 0, .int .i64 0, .bool false, .slice none 0 0] 38)
      have hbb := setRow_below (hal.trans (Below.refl _ _)) (Nat.le_refl _) hal.size (#[.int .i64 n1, .int .u8 k1, .int .i64 s1, .int .i64 r1, .int .i64 am1, .int .i64 le1, .bool v1, .slice la1 L1.length lc1] : Array Value)
      have XT9 := hide (setRow_same (cs := (#[.int .i64 n1, .int .u8 k1, .int .i64 s1, .int .i64 r1, .int .i64 am1, .int .i64 le1, .bool v1, .slice la1 L1.length lc1] : Array Value)) XB.out)
      have H9 := hide (th_below H8.out hbb)
      have XN9 := hide ((hbb.block _ (heap_lt XN8.out)).trans XN8.out)
      have O9 := hide (owns_below O8.out hbb)
      have HSZ9 := hide (Nat.le_trans HSZ8.out hbb.size)
      have HTB := hide (show qb ≤ wr.heap.size ∧ (wr.heap.size ≠ mb ∧ wr.heap.size ≠ xb ∧ wr.heap.size ≠ ob) ∧ wr.heap.size ≠ nb ∧ w.heap.size ≤ wr.heap.size from by have h1 := HQB.out; have h2 := HSZ8.out; omega)
      have HOT := hide (show ∀ g, (Value.slice a2 n2 c2).ownBlock = some g → g ≠ wr.heap.size from fun g hg => by have := (O8.out.lt g hg).2; omega)
      clear hal hbb XB H8 XN8 O8 HSZ8 y0 y1 y2 y3 y4 y5 y6 y7 m2
      generalize (wr.alloc (.cells #[.int .i64 0, .int .u8 0, .int .i64 0, .int .i64 0, .int .i64 0, .int .i64 0, .bool false, .slice none 0 0] 38)).setRow wr.heap.size (#[.int .i64 n1, .int .u8 k1, .int .i64 s1, .int .i64 r1, .int .i64 am1, .int .i64 le1, .bool v1, .slice la1 L1.length lc1] : Array Value) = w9 at *
      generalize wr.heap.size = tb at *
      rw [put_none]
      go_cut [105] from 100 to 105 (fun s105 W => (∃ b, s105 = .bool b) ∧ W = w9)
      case first =>
        cases bk with
        | false =>
          go_wp2_with fail
          go_meet
          exact ⟨⟨_, rfl⟩, rfl⟩
        | true =>
          by_cases hjz : (j : Int) = z
          · have g5 : ((j : Int) == z) = true := beq_iff_eq.mpr hjz
            clear hjz
            go_wp2_with fail
            go_meet
            exact ⟨⟨_, rfl⟩, rfl⟩
          · have g5 : ((j : Int) == z) = false := beq_eq_false_iff_ne.mpr hjz
            clear hjz
            go_wp2_with fail
            go_meet
            exact ⟨⟨_, rfl⟩, rfl⟩
      case rest =>
      obtain ⟨⟨bb, rfl⟩, rfl⟩ := hcut
      go_upto_if 105 with (fail)
      go_cut [] from 106 to 117 (fun W => ∃ (l2 : Int) (v2 : Bool), inR l2 ∧ W.heap[tb]? = some (.cells #[.int .i64 n1, .int .u8 k1, .int .i64 s1, .int .i64 r1, .int .i64 am1, .int .i64 l2, .bool v2, .slice la1 L1.length lc1] 38 (0, 0)) ∧ W.heap[nb]? = some (.cells #[.int .i64 keep, .int .i64 (next + 1), .slice a2 n2 c2] 27 (0, 0)) ∧ (W.heap[mb]? = some (.cells #[.int .i64 keep, .int .i64 next, .slice a T.length cp] 27 (0, 0)) ∧ W.heap[xb]? = some (.cells #[.int .i64 num, .int .u8 k, .int .i64 s, .int .i64 r, .int .i64 am, .int .i64 le, .bool vb, .slice xa LL.length xc] 38 (0, 0)) ∧ W.heap[ob]? = some (.cells #[.int .i64 0, .int .i64 0, .slice none 0 0] 27 (0, 0)) ∧ Below w.heap.size w W) ∧ W.ownsRow qb 38 8 (.slice a2 n2 c2) n2 (T2.flatMap txC) ∧ qb ≤ W.heap.size)
      case first =>
        have x1 := cell_of_block H9.out.2.1 1
        have x4 := cell_of_block H9.out.2.1 4
        cases bb with
        | false =>
          go_wp2_with fail
          go_meet
          exact ⟨le1, v1, HYK.out.ok.left, XT9.out, XN9.out, H9.out, O9.out, HSZ9.out⟩
        | true =>
          by_cases hk2 : k = 2
          · subst hk2
            have y6 := cell_of_block XT9.out 6
            have f6 := frozen_of_block XT9.out 6
            go_upto_region 29 with (fail)
            have XT10 := hide (show (wc.setCell ⟨tb, 6, none⟩ (.bool true)).heap[tb]? = some (.cells #[.int .i64 n1, .int .u8 k1, .int .i64 s1, .int .i64 r1, .int .i64 am1, .int .i64 le1, .bool true, .slice la1 L1.length lc1] 38 (0, 0)) from block_setCell XT9.out 6 (.bool true))
            have XN10 := hide ((block_setCell_other HTB.out.2.2.1 6 (.bool true)).trans XN9.out)
            have H10 := hide (th_set H9.out HTB.out.2.1 HTB.out.2.2.2 6 (.bool true))
            have O10 := hide (ownsRow_setCell_other (a := ⟨tb, 6, none⟩) O9.out (fun e => HOT.out _ e rfl) (.bool true))
            have HSZ10 := hide (show qb ≤ (wc.setCell ⟨tb, 6, none⟩ (.bool true)).heap.size from by rw [setCell_sz]; exact HSZ9.out)
            clear XT9 XN9 H9 O9 HSZ9 y6 f6
            generalize wc.setCell ⟨tb, 6, none⟩ (.bool true) = w10 at *
            have y5 := cell_of_block XT10.out 5
            have f5 := frozen_of_block XT10.out 5
            go_wp2_with fail
            have XT11 := hide (show (w10.setCell ⟨tb, 5, none⟩ (.int .i64 0)).heap[tb]? = some (.cells #[.int .i64 n1, .int .u8 k1, .int .i64 s1, .int .i64 r1, .int .i64 am1, .int .i64 0, .bool true, .slice la1 L1.length lc1] 38 (0, 0)) from block_setCell XT10.out 5 (.int .i64 0))
            have XN11 := hide ((block_setCell_other HTB.out.2.2.1 5 (.int .i64 0)).trans XN10.out)
            have H11 := hide (th_set H10.out HTB.out.2.1 HTB.out.2.2.2 5 (.int .i64 0))
            have O11 := hide (ownsRow_setCell_other (a := ⟨tb, 5, none⟩) O10.out (fun e => HOT.out _ e rfl) (.int .i64 0))
            have HSZ11 := hide (show qb ≤ (w10.setCell ⟨tb, 5, none⟩ (.int .i64 0)).heap.size from by rw [setCell_sz]; exact HSZ10.out)
            clear XT10 XN10 H10 O10 HSZ10 y5 f5
            generalize w10.setCell ⟨tb, 5, none⟩ (.int .i64 0) = w11 at *
            go_meet
            exact ⟨0, true, by unfold inR; omega, XT11.out, XN11.out, H11.out, O11.out, HSZ11.out⟩
          · have g2 : (k == 2) = false := beq_eq_false_iff_ne.mpr hk2
            have y5 := cell_of_block XT9.out 5
            have f5 := frozen_of_block XT9.out 5
            have HWI := hide (wrapI_in (le1 - am))
            go_wp2_with fail
            have XT10 := hide (show (wc.setCell ⟨tb, 5, none⟩ (.int .i64 (wrap64 (le1 - am)))).heap[tb]? = some (.cells #[.int .i64 n1, .int .u8 k1, .int .i64 s1, .int .i64 r1, .int .i64 am1, .int .i64 (wrap64 (le1 - am)), .bool v1, .slice la1 L1.length lc1] 38 (0, 0)) from block_setCell XT9.out 5 (.int .i64 (wrap64 (le1 - am))))
            have XN10 := hide ((block_setCell_other HTB.out.2.2.1 5 (.int .i64 (wrap64 (le1 - am)))).trans XN9.out)
            have H10 := hide (th_set H9.out HTB.out.2.1 HTB.out.2.2.2 5 (.int .i64 (wrap64 (le1 - am))))
            have O10 := hide (ownsRow_setCell_other (a := ⟨tb, 5, none⟩) O9.out (fun e => HOT.out _ e rfl) (.int .i64 (wrap64 (le1 - am))))
            have HSZ10 := hide (show qb ≤ (wc.setCell ⟨tb, 5, none⟩ (.int .i64 (wrap64 (le1 - am)))).heap.size from by rw [setCell_sz]; exact HSZ9.out)
            clear XT9 XN9 H9 O9 HSZ9 y5 f5
            generalize wc.setCell ⟨tb, 5, none⟩ (.int .i64 (wrap64 (le1 - am))) = w10 at *
            go_meet
            exact ⟨_, v1, HWI.out, XT10.out, XN10.out, H10.out, O10.out, HSZ10.out⟩
      case rest =>
      obtain ⟨l2, v2, hl2, hxt, hxn, h3, hO, hsq⟩ := hcut
      have HYK2 := hide (HYK.out.left (u := v2) hl2)
      have XT10 := hide hxt
      have XN10 := hide hxn
      have H10 := hide h3
      have O10 := hide hO
      have HSZ10 := hide hsq
      clear hl2 hxt hxn h3 hO hsq XT9 XN9 H9 O9 HSZ9 HYK
      go_upto_region 31 with (fail)
      obtain ⟨w10, hw10⟩ : ∃ W, W = wc := ⟨_, rfl⟩
      rw [← hw10] at XT10 XN10 H10 O10 HSZ10 ⊢
      clear hw10
      go_cut [126] from 117 to 126 (fun s126 W => (∃ b, s126 = .bool b) ∧ W = w10)
      case first =>
        have m0 := cell_of_block H10.out.1 0
        have m2 := cell_of_block H10.out.1 2
        by_cases hj0 : (j : Int) > 0
        · have g5 : decide ((j : Int) > 0) = true := decide_eq_true hj0
          have g6 : 0 < j := by omega
          go_wp2_with fail
          go_meet
          exact ⟨⟨_, rfl⟩, rfl⟩
        · have g5 : decide ((j : Int) > 0) = false := decide_eq_false hj0
          have g6 : ¬ 0 < j := by omega
          go_wp2_with fail
          go_meet
          exact ⟨⟨_, rfl⟩, rfl⟩
      case rest =>
      obtain ⟨⟨bc, rfl⟩, rfl⟩ := hcut
      have hbd : IntKind.i64.wrap ((j : Int) + 1) = (j : Int) + 1 := by rw [IntKind.wrap_i64]; have := HTL.out; have := HJL.out; omega
      cases bc with
      | false =>
        go_wp2_with fail
        go_roundw
        case rel => exact ⟨j + 1, n2, T2, a2, c2, HJL.out, by go_num, by have := HNJ.out; omega, HT2.out, XN10.out, H10.out, O10.out, K8.out, HSZ10.out⟩
        case measure => have := HJL.out; simp [intOf]; omega
      | true =>
        have cc2 := cell_of_block XN10.out 2
        obtain ⟨t0, t1, t2, t3, t4, t5, t6, t7⟩ := eight_cells XT10.out
        have hA := (Below.refl wc.heap.size wc).alloc (Nat.le_refl _) (.cells #[.int .i64 n1, .int .u8 k1, .int .i64 s1, .int .i64 r1, .int .i64 am1, .int .i64 l2, .bool v2, .slice la1 L1.length lc1] 38)
        have HNEW := hide (eight_at (heap_new wc (.cells #[.int .i64 n1, .int .u8 k1, .int .i64 s1, .int .i64 r1, .int .i64 am1, .int .i64 l2, .bool v2, .slice la1 L1.length lc1] 38)))
        have OA := hide (owns_below O10.out hA)
        have XNA := hide ((hA.block _ (heap_lt XN10.out)).trans XN10.out)
        have HWA := hide (show qb ≤ (wc.alloc (.cells #[.int .i64 n1, .int .u8 k1, .int .i64 s1, .int .i64 r1, .int .i64 am1, .int .i64 l2, .bool v2, .slice la1 L1.length lc1] 38)).heap.size from Nat.le_trans HSZ10.out hA.size)
        have BQA := hide (hA.mono HSZ10.out)
        clear hA
        go_wp2_with (at_builtin; refine wpList_append_own2 _ rfl _ _ 25 rfl qb 38 i0 (.agg #[.int .i64 0, .int .u8 0, .int .i64 0, .int .i64 0, .int .i64 0, .int .i64 0, .bool false, .slice none 0 0]) 8 80 Try.underlying25 HI.out HZ0.out HZ1.out HZ2.out rfl (by decide) (.slice a2 n2 c2) n2 (T2.flatMap txC) rfl OA.out ⟨wc.heap.size, 0, none⟩ 1 1 (by decide) [.int .i64 n1, .int .u8 k1, .int .i64 s1, .int .i64 r1, .int .i64 am1, .int .i64 l2, .bool v2, .slice la1 L1.length lc1] rfl rfl HNEW.out (txC_one (TxA.mk (TxM.mk n1 k1 s1 r1 am1 l2 v2 L1) la1 lc1)) (by unfold maxLen; have := HN2.out; omega) (by have := HN2.out; omega) HWA.out ?_; intro g3 c3' w' ho hgr hnil; have HO7 := hide ho; have HGR := hide hgr; clear ho hgr hnil cc2 t0 t1 t2 t3 t4 t5 t6 t7; have XNG := hide (grown_stays OA.out HGR.out XNA.out (by decide)); have cc2 := cell_of_block XNG.out 2; have ff2 := frozen_of_block XNG.out 2)
        clear cc2 ff2
        have BG9 := hide ((Below.refl qb _).grown HGR.out HWA.out (fun jj hh => (OA.out.lt jj hh).1))
        have BG := hide (BQA.out.trans BG9.out)
        have HGQ := hide (show (Value.slice (some ⟨g3, 0, none⟩) (n2 + 1) c3').ownBlock ≠ some nb from fun e => by have := (HO7.out.lt nb e).1; have := HQB.out; omega)
        have H11 := hide (th_low H10.out BG.out HQB.out.1 HQB.out.2.2)
        have H12 := hide (th_set H11.out HNB.out.2 HNB.out.1 2 (.slice (some ⟨g3, 0, none⟩) (n2 + 1) c3'))
        have XN12 := hide (show (w'.setCell ⟨nb, 2, none⟩ (.slice (some ⟨g3, 0, none⟩) (n2 + 1) c3')).heap[nb]? = some (.cells #[.int .i64 keep, .int .i64 (next + 1), .slice (some ⟨g3, 0, none⟩) (n2 + 1) c3'] 27 (0, 0)) from block_setCell XNG.out 2 (.slice (some ⟨g3, 0, none⟩) (n2 + 1) c3'))
        have O12 := hide (ownsRow_setCell_other (a := ⟨nb, 2, none⟩) HO7.out HGQ.out (.slice (some ⟨g3, 0, none⟩) (n2 + 1) c3'))
        have HSZ12 := hide (show qb ≤ (w'.setCell ⟨nb, 2, none⟩ (.slice (some ⟨g3, 0, none⟩) (n2 + 1) c3')).heap.size from by rw [setCell_sz]; exact (Nat.le_trans HWA.out BG9.out.size))
        go_roundw
        case rel => exact ⟨j + 1, n2 + 1, T2 ++ [(TxA.mk (TxM.mk n1 k1 s1 r1 am1 l2 v2 L1) la1 lc1)], some ⟨g3, 0, none⟩, c3', HJL.out, by go_num, by have := HNJ.out; omega, by rw [List.length_append, HT2.out]; rfl, XN12.out, H12.out, by rw [flat_snoc8]; exact O12.out, (fun y hy => by
          rcases List.mem_append.1 hy with hy | hy
          · exact K8.out y hy
          · rw [List.mem_singleton.1 hy]; exact ⟨HYK2.out, HYL.out⟩), HSZ12.out⟩
        case measure => have := HJL.out; simp [intOf]; omega
    · obtain rfl : j = T.length := by omega
      clear hlt
      have m1 := cell_of_block H8.out.1 1
      have x0 := cell_of_block H8.out.2.1 0
      have f0 := frozen_of_block H8.out.2.1 0
      have HOX := hide (show (Value.slice a2 n2 c2).ownBlock ≠ some xb from fun e => by have := (O8.out.lt xb e).1; have := HQB.out; omega)
      go_upto_region 34 with (fail)
      have X10 := hide (show (wr.setCell ⟨xb, 0, none⟩ (.int .i64 next)).heap[xb]? = some (.cells #[.int .i64 next, .int .u8 k, .int .i64 s, .int .i64 r, .int .i64 am, .int .i64 le, .bool vb, .slice xa LL.length xc] 38 (0, 0)) from block_setCell H8.out.2.1 0 (.int .i64 next))
      have XN10 := hide ((block_setCell_other HNB.out.2.2.1.symm 0 (.int .i64 next)).trans XN8.out)
      have XO10 := hide ((block_setCell_other HNE.out.1 0 (.int .i64 next)).trans H8.out.2.2.1)
      have O10 := hide (ownsRow_setCell_other (a := ⟨xb, 0, none⟩) O8.out HOX.out (.int .i64 next))
      have B10 := hide ((H8.out.2.2.2).setCell (p := ⟨xb, 0, none⟩) HXB.out (.int .i64 next))
      have HSZ10 := hide (show qb ≤ (wr.setCell ⟨xb, 0, none⟩ (.int .i64 next)).heap.size from by rw [setCell_sz]; exact HSZ8.out)
      clear x0 f0 H8 XN8 O8 HSZ8 m1 m2 
      generalize wr.setCell ⟨xb, 0, none⟩ (.int .i64 next) = w10 at *
      have x5 := cell_of_block X10.out 5
      have f5 := frozen_of_block X10.out 5
      go_upto_region 35 with (fail)
      have X11 := hide (show (w10.setCell ⟨xb, 5, none⟩ (.int .i64 0)).heap[xb]? = some (.cells #[.int .i64 next, .int .u8 k, .int .i64 s, .int .i64 r, .int .i64 am, .int .i64 0, .bool vb, .slice xa LL.length xc] 38 (0, 0)) from block_setCell X10.out 5 (.int .i64 0))
      have XN11 := hide ((block_setCell_other HNB.out.2.2.1.symm 5 (.int .i64 0)).trans XN10.out)
      have XO11 := hide ((block_setCell_other HNE.out.1 5 (.int .i64 0)).trans XO10.out)
      have O11 := hide (ownsRow_setCell_other (a := ⟨xb, 5, none⟩) O10.out HOX.out (.int .i64 0))
      have B11 := hide ((B10.out).setCell (p := ⟨xb, 5, none⟩) HXB.out (.int .i64 0))
      have HSZ11 := hide (show qb ≤ (w10.setCell ⟨xb, 5, none⟩ (.int .i64 0)).heap.size from by rw [setCell_sz]; exact HSZ10.out)
      clear x5 f5 X10 XN10 XO10 O10 B10 HSZ10 
      generalize w10.setCell ⟨xb, 5, none⟩ (.int .i64 0) = w11 at *
      have x6 := cell_of_block X11.out 6
      have f6 := frozen_of_block X11.out 6
      go_upto_region 36 with (fail)
      have X12 := hide (show (w11.setCell ⟨xb, 6, none⟩ (.bool false)).heap[xb]? = some (.cells #[.int .i64 next, .int .u8 k, .int .i64 s, .int .i64 r, .int .i64 am, .int .i64 (0), .bool false, .slice xa LL.length xc] 38 (0, 0)) from block_setCell X11.out 6 (.bool false))
      have XN12 := hide ((block_setCell_other HNB.out.2.2.1.symm 6 (.bool false)).trans XN11.out)
      have XO12 := hide ((block_setCell_other HNE.out.1 6 (.bool false)).trans XO11.out)
      have O12 := hide (ownsRow_setCell_other (a := ⟨xb, 6, none⟩) O11.out HOX.out (.bool false))
      have B12 := hide ((B11.out).setCell (p := ⟨xb, 6, none⟩) HXB.out (.bool false))
      have HSZ12 := hide (show qb ≤ (w11.setCell ⟨xb, 6, none⟩ (.bool false)).heap.size from by rw [setCell_sz]; exact HSZ11.out)
      clear x6 f6 X11 XN11 XO11 O11 B11 HSZ11 
      generalize w11.setCell ⟨xb, 6, none⟩ (.bool false) = w12 at *
      have x1 := cell_of_block X12.out 1
      go_upto_if 140 with (fail)
      clear x1
      go_cut [] from 141 to 144 (fun W => ∃ lf : Int, inR lf ∧ W.heap[xb]? = some (.cells #[.int .i64 next, .int .u8 k, .int .i64 s, .int .i64 r, .int .i64 am, .int .i64 (lf), .bool false, .slice xa LL.length xc] 38 (0, 0)) ∧ W.heap[nb]? = some (.cells #[.int .i64 keep, .int .i64 (next + 1), .slice a2 n2 c2] 27 (0, 0)) ∧ W.heap[ob]? = some (.cells #[.int .i64 0, .int .i64 0, .slice none 0 0] 27 (0, 0)) ∧ W.ownsRow qb 38 8 (.slice a2 n2 c2) n2 (T2.flatMap txC) ∧ Below w.heap.size w W ∧ qb ≤ W.heap.size)
      case first =>
        by_cases hk1 : k = 1
        · have g1 : (k == 1) = true := beq_iff_eq.mpr hk1
          have x4 := cell_of_block X12.out 4
          have x5 := cell_of_block X12.out 5
          have f5 := frozen_of_block X12.out 5
          go_wp2_with fail
          have X13 := hide (show (w12.setCell ⟨xb, 5, none⟩ (.int .i64 am)).heap[xb]? = some (.cells #[.int .i64 next, .int .u8 k, .int .i64 s, .int .i64 r, .int .i64 am, .int .i64 (am), .bool false, .slice xa LL.length xc] 38 (0, 0)) from block_setCell X12.out 5 (.int .i64 am))
          have XN13 := hide ((block_setCell_other HNB.out.2.2.1.symm 5 (.int .i64 am)).trans XN12.out)
          have XO13 := hide ((block_setCell_other HNE.out.1 5 (.int .i64 am)).trans XO12.out)
          have O13 := hide (ownsRow_setCell_other (a := ⟨xb, 5, none⟩) O12.out HOX.out (.int .i64 am))
          have B13 := hide ((B12.out).setCell (p := ⟨xb, 5, none⟩) HXB.out (.int .i64 am))
          have HSZ13 := hide (show qb ≤ (w12.setCell ⟨xb, 5, none⟩ (.int .i64 am)).heap.size from by rw [setCell_sz]; exact HSZ12.out)
          clear x5 f5 X12 XN12 XO12 O12 B12 HSZ12 
          generalize w12.setCell ⟨xb, 5, none⟩ (.int .i64 am) = w13 at *
          go_meet
          exact ⟨am, HXK.out.ok.amt, X13.out, XN13.out, XO13.out, O13.out, B13.out, HSZ13.out⟩
        · have g1 : (k == 1) = false := beq_eq_false_iff_ne.mpr hk1
          go_wp2_with fail
          go_meet
          exact ⟨0, by unfold inR; omega, X12.out, XN12.out, XO12.out, O12.out, B12.out, HSZ12.out⟩
      case rest =>
      obtain ⟨lf, hlf, hx, hn, ho, hO, hb, hsq⟩ := hcut
      have HLF := hide hlf
      have XX4 := hide hx
      have XN4 := hide hn
      have XO4 := hide ho
      have O4 := hide hO
      have B4 := hide hb
      have HSZ4 := hide hsq
      clear hlf hx hn ho hO hb hsq X12 XN12 XO12 O12 B12 HSZ12
      have cc2 := cell_of_block XN4.out 2
      obtain ⟨t0, t1, t2, t3, t4, t5, t6, t7⟩ := eight_cells XX4.out
      have hA := (Below.refl wc.heap.size wc).alloc (Nat.le_refl _) (.cells #[.int .i64 next, .int .u8 k, .int .i64 s, .int .i64 r, .int .i64 am, .int .i64 (lf), .bool false, .slice xa LL.length xc] 38)
      have HNEW := hide (eight_at (heap_new wc (.cells #[.int .i64 next, .int .u8 k, .int .i64 s, .int .i64 r, .int .i64 am, .int .i64 (lf), .bool false, .slice xa LL.length xc] 38)))
      have OA := hide (owns_below O4.out hA)
      have XNA := hide ((hA.block _ (heap_lt XN4.out)).trans XN4.out)
      have HWA := hide (show qb ≤ (wc.alloc (.cells #[.int .i64 next, .int .u8 k, .int .i64 s, .int .i64 r, .int .i64 am, .int .i64 (lf), .bool false, .slice xa LL.length xc] 38)).heap.size from Nat.le_trans HSZ4.out hA.size)
      have BQA := hide (hA.mono HSZ4.out)
      clear hA
      go_wp2_with (at_builtin; refine wpList_append_own2 _ rfl _ _ 25 rfl qb 38 i0 (.agg #[.int .i64 0, .int .u8 0, .int .i64 0, .int .i64 0, .int .i64 0, .int .i64 0, .bool false, .slice none 0 0]) 8 80 Try.underlying25 HI.out HZ0.out HZ1.out HZ2.out rfl (by decide) (.slice a2 n2 c2) n2 (T2.flatMap txC) rfl OA.out ⟨wc.heap.size, 0, none⟩ 1 1 (by decide) [.int .i64 next, .int .u8 k, .int .i64 s, .int .i64 r, .int .i64 am, .int .i64 (lf), .bool false, .slice xa LL.length xc] rfl rfl HNEW.out (txC_one (TxA.mk (TxM.mk next k s r am lf false LL) xa xc)) (by unfold maxLen; have := HN2.out; omega) (by have := HN2.out; omega) HWA.out ?_; intro g3 c3' w' ho hgr hnil; have HO7 := hide ho; have HGR := hide hgr; clear ho hgr hnil cc2 t0 t1 t2 t3 t4 t5 t6 t7; have XNG := hide (grown_stays OA.out HGR.out XNA.out (by decide)); have cc2 := cell_of_block XNG.out 2; have ff2 := frozen_of_block XNG.out 2)
      clear cc2 ff2
      have BG9 := hide ((Below.refl qb _).grown HGR.out HWA.out (fun jj hh => (OA.out.lt jj hh).1))
      have BG := hide (BQA.out.trans BG9.out)
      have HGQ := hide (show (Value.slice (some ⟨g3, 0, none⟩) (n2 + 1) c3').ownBlock ≠ some nb from fun e => by have := (HO7.out.lt nb e).1; have := HQB.out; omega)
      have XX5 := hide ((BG.out.block _ HQB.out.1.2.1).trans XX4.out)
      have XO5 := hide ((BG.out.block _ HQB.out.1.2.2).trans XO4.out)
      have B5 := hide (B4.out.trans (BG.out.mono HQB.out.2.2))
      have XN6 := hide (show (w'.setCell ⟨nb, 2, none⟩ (.slice (some ⟨g3, 0, none⟩) (n2 + 1) c3')).heap[nb]? = some (.cells #[.int .i64 keep, .int .i64 (next + 1), .slice (some ⟨g3, 0, none⟩) (n2 + 1) c3'] 27 (0, 0)) from block_setCell XNG.out 2 (.slice (some ⟨g3, 0, none⟩) (n2 + 1) c3'))
      have XX6 := hide ((block_setCell_other HNB.out.2.2.1 2 (.slice (some ⟨g3, 0, none⟩) (n2 + 1) c3')).trans XX5.out)
      have XO6 := hide ((block_setCell_other HNB.out.2.2.2 2 (.slice (some ⟨g3, 0, none⟩) (n2 + 1) c3')).trans XO5.out)
      have O6 := hide (ownsRow_setCell_other (a := ⟨nb, 2, none⟩) HO7.out HGQ.out (.slice (some ⟨g3, 0, none⟩) (n2 + 1) c3'))
      have B6 := hide (B5.out.setCell (p := ⟨nb, 2, none⟩) HNB.out.1 (.slice (some ⟨g3, 0, none⟩) (n2 + 1) c3'))
      clear XX4 XN4 XO4 O4 B4 XX5 XO5 B5 HO7 HGR OA XNA HWA BQA XNG BG HGQ HNEW HSZ4
      generalize w'.setCell ⟨nb, 2, none⟩ (.slice (some ⟨g3, 0, none⟩) (n2 + 1) c3') = w5 at *
      go_upto_region 39 with (fail)
      have XX0 := hide (show w5.drew.heap[xb]? = _ from XX6.out)
      have XN0 := hide (show w5.drew.heap[nb]? = _ from XN6.out)
      have XO0 := hide (show w5.drew.heap[ob]? = _ from XO6.out)
      have O0 := hide (show w5.drew.ownsRow qb 38 8 _ _ _ from O6.out)
      have B0 := hide B6.out.drew
      have HNE3 := hide (show ob ≠ nb from HNB.out.2.2.2.symm)
      clear XX6 XN6 XO6 O6 B6
      refine wp_region_held_drew (S := (fun W => W.heap[xb]? = some (.cells #[.int .i64 next, .int .u8 k, .int .i64 s, .int .i64 r, .int .i64 am, .int .i64 (lf), .bool false, .slice xa LL.length xc] 38 (0, 0)) ∧ W.heap[nb]? = some (.cells #[.int .i64 keep, .int .i64 (next + 1), .slice (some ⟨g3, 0, none⟩) (n2 + 1) c3'] 27 (0, 0)))) (by kernel_rfl) (⟨XX0.out, XN0.out⟩) (fun hHeld => ?_)
      generalize w5.drew = v0 at *
      refine wpAnyH_take (i := 0) (oi := { dst := some 150, op := Op.load 27 (Operand.tmp 11), type := 27, pos := "ref.go:133", after := #[], guard := none }) (v := ?_) rfl (by kernel_rfl) (by kernel_rfl) (by kernel_rfl) (fun _ _ _ h => h) (Or.inl ⟨by kernel_rfl, ?_⟩) hHeld ?_
      rotate_left
      · (intro w hSw; (try dsimp only at hSw); have e0 := cell_of_block hSw.1 0; have e1 := cell_of_block hSw.1 1; have e2 := cell_of_block hSw.1 2; have e3 := cell_of_block hSw.1 3; have e4 := cell_of_block hSw.1 4; have e5 := cell_of_block hSw.1 5; have e6 := cell_of_block hSw.1 6; have e7 := cell_of_block hSw.1 7; have g0 := cell_of_block hSw.2 0; have g1 := cell_of_block hSw.2 1; have g2 := cell_of_block hSw.2 2; go_simp); try with_reducible rfl
      try simp only [Act.put, List.setIfInBounds_toArray, List.set_cons_zero, List.set_cons_succ]
      refine wpAnyH_take (i := 1) (oi := { dst := some 151, op := Op.fieldAddr 38 (Operand.tmp 3) 0, type := 0, pos := "ref.go:133", after := #[{ on := 3, ground := Ground.gcOnly Departure.lateStores }], guard := none }) (v := ?_) rfl (by kernel_rfl) (by kernel_rfl) (by kernel_rfl) (fun _ _ _ h => h) (Or.inl ⟨by kernel_rfl, ?_⟩) hHeld ?_
      rotate_left
      · (intro w hSw; (try dsimp only at hSw); have e0 := cell_of_block hSw.1 0; have e1 := cell_of_block hSw.1 1; have e2 := cell_of_block hSw.1 2; have e3 := cell_of_block hSw.1 3; have e4 := cell_of_block hSw.1 4; have e5 := cell_of_block hSw.1 5; have e6 := cell_of_block hSw.1 6; have e7 := cell_of_block hSw.1 7; have g0 := cell_of_block hSw.2 0; have g1 := cell_of_block hSw.2 1; have g2 := cell_of_block hSw.2 2; go_simp); try with_reducible rfl
      try simp only [Act.put, List.setIfInBounds_toArray, List.set_cons_zero, List.set_cons_succ]
      refine wpAnyH_take (i := 2) (oi := { dst := some 152, op := Op.load 3 (Operand.tmp 151), type := 3, pos := "ref.go:133", after := #[{ on := 1, ground := Ground.data }, { on := 3, ground := Ground.gcOnly Departure.lateStores }], guard := none }) (v := ?_) rfl (by kernel_rfl) (by kernel_rfl) (by kernel_rfl) (fun _ _ _ h => h) (Or.inl ⟨by kernel_rfl, ?_⟩) hHeld ?_
      rotate_left
      · (intro w hSw; (try dsimp only at hSw); have e0 := cell_of_block hSw.1 0; have e1 := cell_of_block hSw.1 1; have e2 := cell_of_block hSw.1 2; have e3 := cell_of_block hSw.1 3; have e4 := cell_of_block hSw.1 4; have e5 := cell_of_block hSw.1 5; have e6 := cell_of_block hSw.1 6; have e7 := cell_of_block hSw.1 7; have g0 := cell_of_block hSw.2 0; have g1 := cell_of_block hSw.2 1; have g2 := cell_of_block hSw.2 2; go_simp); try with_reducible rfl
      try simp only [Act.put, List.setIfInBounds_toArray, List.set_cons_zero, List.set_cons_succ]
      refine wpAnyH_ready (rs := [3]) (by kernel_rfl) (by simp) (AllReadyH.cons (o := { dst := none, op := Op.store 27 (Operand.tmp 4) (Operand.tmp 150), type := 0, pos := "ref.go:133", after := #[{ on := 0, ground := Ground.data }, { on := 0, ground := Ground.phase }, { on := 1, ground := Ground.textOnly Departure.lateStores }, { on := 2, ground := Ground.textOnly Departure.lateStores }], guard := none }) rfl (fun K hK => ?_) AllReadyH.nil)
      have hOld := hide hHeld
      clear hHeld
      refine rw_storeO 27 (.tmp 4) (.tmp 150) rfl ob rfl #[.int .i64 keep, .int .i64 (next + 1), .slice (some ⟨g3, 0, none⟩) (n2 + 1) c3'] rfl _ XO0.out (by kernel_rfl) rfl (by simp [Value.oneCell']) ?_
      have XO1 := hide (setRow_same (cs := #[.int .i64 keep, .int .i64 (next + 1), .slice (some ⟨g3, 0, none⟩) (n2 + 1) c3']) XO0.out)
      have BF := hide (setRow_below B0.out HOB.out B0.out.size #[.int .i64 keep, .int .i64 (next + 1), .slice (some ⟨g3, 0, none⟩) (n2 + 1) c3'])
      have OF := hide ((setRow_keeps (Ts := [27]) XO0.out (by decide) #[.int .i64 keep, .int .i64 (next + 1), .slice (some ⟨g3, 0, none⟩) (n2 + 1) c3']).owns O0.out (by decide))
      have XX1 := hide ((setRow_diff HNE.out.1.symm (cs := #[.int .i64 keep, .int .i64 (next + 1), .slice (some ⟨g3, 0, none⟩) (n2 + 1) c3'])).trans XX0.out)
      have XN1 := hide ((setRow_diff HNE3.out (cs := #[.int .i64 keep, .int .i64 (next + 1), .slice (some ⟨g3, 0, none⟩) (n2 + 1) c3'])).trans XN0.out)
      generalize v0.setRow ob #[.int .i64 keep, .int .i64 (next + 1), .slice (some ⟨g3, 0, none⟩) (n2 + 1) c3'] = v1 at *
      refine hK.out _ _ (⟨XX1.out, XN1.out⟩) (fun hHeld => ?_)
      clear hK K hOld
      try simp only [Act.put, List.setIfInBounds_toArray, List.set_cons_zero, List.set_cons_succ]
      refine wpAnyH_take (i := 4) (oi := { dst := some 5, op := Op.assign (Operand.tmp 152), type := 3, pos := "ref.go:133", after := #[{ on := 2, ground := Ground.data }, { on := 3, ground := Ground.chain }, { on := 0, ground := Ground.phase }, { on := 1, ground := Ground.phase }, { on := 2, ground := Ground.phase }, { on := 3, ground := Ground.phase }], guard := none }) (v := ?_) rfl (by kernel_rfl) (by kernel_rfl) (by kernel_rfl) (fun _ _ _ h => h) (Or.inl ⟨by kernel_rfl, ?_⟩) hHeld ?_
      rotate_left
      · (intro w hSw; (try dsimp only at hSw); have e0 := cell_of_block hSw.1 0; have e1 := cell_of_block hSw.1 1; have e2 := cell_of_block hSw.1 2; have e3 := cell_of_block hSw.1 3; have e4 := cell_of_block hSw.1 4; have e5 := cell_of_block hSw.1 5; have e6 := cell_of_block hSw.1 6; have e7 := cell_of_block hSw.1 7; have g0 := cell_of_block hSw.2 0; have g1 := cell_of_block hSw.2 1; have g2 := cell_of_block hSw.2 2; go_simp); try with_reducible rfl
      try simp only [Act.put, List.setIfInBounds_toArray, List.set_cons_zero, List.set_cons_succ]
      refine wpAnyH_take (i := 5) (oi := { dst := some 6, op := Op.assign (Operand.const (Value.int IntKind.i64 0)), type := 3, pos := "ref.go:133", after := #[{ on := 4, ground := Ground.chain }, { on := 0, ground := Ground.phase }, { on := 1, ground := Ground.phase }, { on := 2, ground := Ground.phase }, { on := 3, ground := Ground.phase }, { on := 4, ground := Ground.phase }], guard := none }) (v := ?_) rfl (by kernel_rfl) (by kernel_rfl) (by kernel_rfl) (fun _ _ _ h => h) (Or.inl ⟨by kernel_rfl, ?_⟩) hHeld ?_
      rotate_left
      · (intro w hSw; (try dsimp only at hSw); have e0 := cell_of_block hSw.1 0; have e1 := cell_of_block hSw.1 1; have e2 := cell_of_block hSw.1 2; have e3 := cell_of_block hSw.1 3; have e4 := cell_of_block hSw.1 4; have e5 := cell_of_block hSw.1 5; have e6 := cell_of_block hSw.1 6; have e7 := cell_of_block hSw.1 7; have g0 := cell_of_block hSw.2 0; have g1 := cell_of_block hSw.2 1; have g2 := cell_of_block hSw.2 2; go_simp); try with_reducible rfl
      try simp only [Act.put, List.setIfInBounds_toArray, List.set_cons_zero, List.set_cons_succ]
      refine wpAnyH_done (by kernel_rfl) ?_ _
      clear hHeld

      go_wp2_with fail
      (try simp only [Exit.inBlock, Exit.then])
      refine bodyPost_ret (res_ctt (P := Try.prog) rfl _ _ ob 27 #[.int .i64 keep, .int .i64 (next + 1), .slice (some ⟨g3, 0, none⟩) (n2 + 1) c3'] (0, 0) _ rfl XO1.out Try.underlying27 rfl (by kernel_rfl)) rfl ?_
      refine ⟨next + 1, next, 0, some ⟨g3, 0, none⟩, c3', T2 ++ [(TxA.mk (TxM.mk next k s r am lf false LL) xa xc)], ?_, ⟨?_, ?_⟩, ?_, ?_, by omega, Int.le_refl _, HNI.out.2.2, BF.out⟩
      · rw [List.length_append, HT2.out]; rfl
      · rw [List.length_append, HT2.out, flat_snoc8]
        exact owns_base0 OF.out (Nat.zero_le _)
      · intro y hy
        rcases List.mem_append.1 hy with hy | hy
        · exact (K8.out y hy).2.below BF.out
        · rw [List.mem_singleton.1 hy]; exact HXL.out.below BF.out
      · intro y hy
        rcases List.mem_append.1 hy with hy | hy
        · exact (K8.out y hy).1
        · rw [List.mem_singleton.1 hy]; exact (HXK.out.left HLF.out).num HNI.out.1
      · rw [List.length_append, HT2.out]
        have := HNJ.out
        simp
        omega
end Go.Proofs.Ytbnbfnlfgmlcgaa

/-
  Layer 25: texts of fields by their lengths alone: plain.
-/
--import Derived.Test.Zdbg
namespace Go.Proofs.Ytbnbfnlfgmlcgaa
set_option linter.unusedSimpArgs false
set_option linter.unusedVariables false
open Go.RowKit
theorem wrF_more (l : List UInt8) (b : Bool) (x : Fld) : l.length ≤ (wrF l b x).1.length := by
  unfold wrF wrL
  (repeat' split) <;> simp only [List.length_append] <;> omega
theorem fold_more : ∀ (m : List Fld) (z : List UInt8 × Bool), z.1.length ≤ (m.foldl (fun z x => wrF z.1 z.2 x) z).1.length
  | [], z => Nat.le_refl _
  | x :: m, z => by
    rw [List.foldl_cons]
    exact Nat.le_trans (wrF_more z.1 z.2 x) (fold_more m _)
/-- fields' text is some text -/
theorem refS_some (m : List Fld) : ∃ l : List UInt8, refS m = bs l ∧ l.length ≤ 300 * m.length := by
  unfold refS
  split
  · exact ⟨[], rfl, Nat.zero_le _⟩
  · exact ⟨_, rfl, wrFs_len m⟩
/-- the head's two fields are never wrong -/
def headF (next len : Int) : List Fld := [⟨0, 5, next, ⟨#[]⟩⟩, ⟨0, 2, len, ⟨#[]⟩⟩]
theorem headF_good (next len : Int) (h : 1 ≤ next ∧ next ≤ 4294967296) (hl : 0 ≤ len ∧ len ≤ 1000) : ∀ f ∈ headF next len, FldGood f := by
  intro f hf
  unfold headF at hf
  simp only [List.mem_cons, List.not_mem_nil, or_false] at hf
  rcases hf with rfl | rfl
  · exact ⟨⟨by dsimp only; omega, by dsimp only; omega⟩, ⟨by dsimp only; omega, by dsimp only; omega⟩, ⟨by dsimp only; omega, by dsimp only; omega⟩, by show 0 ≤ 300; omega⟩
  · exact ⟨⟨by dsimp only; omega, by dsimp only; omega⟩, ⟨by dsimp only; omega, by dsimp only; omega⟩, ⟨by dsimp only; omega, by dsimp only; omega⟩, by show 0 ≤ 300; omega⟩
theorem head_some (next len : Int) (h : 1 ≤ next ∧ next ≤ 4294967296) (hl : 0 ≤ len ∧ len ≤ 1000) : ∃ l : List UInt8, refS (headF next len) = bs l ∧ 1 ≤ l.length ∧ l.length ≤ 600 := by
  have f5 : fitsB next.toNat 5 = true := by
    unfold fitsB
    exact decide_eq_true ⟨by decide, by decide, by show next.toNat < 1099511627776; omega⟩
  have f2 : fitsB len.toNat 2 = true := by
    unfold fitsB
    exact decide_eq_true ⟨by decide, by decide, by show len.toNat < 65536; omega⟩
  have e1 : wrF [] false ⟨0, 5, next, ⟨#[]⟩⟩ = (putS next 5, false) := by
    unfold wrF wrL wrB
    rw [if_pos rfl]
    dsimp only
    rw [f5]
    simp
  have e2 : wrFs (headF next len) = (putS next 5 ++ putS len 2, false) := by
    unfold wrFs headF
    rw [List.foldl_cons, e1, List.foldl_cons, List.foldl_nil]
    unfold wrF wrL wrB
    rw [if_pos rfl]
    dsimp only
    rw [f2]
    simp
  refine ⟨putS next 5 ++ putS len 2, by unfold refS; rw [e2]; rfl, ?_, ?_⟩
  · rw [List.length_append]
    have : (putS next 5).length = 5 := by
      unfold putS
      rw [if_pos (by decide), putL_length]
      rfl
    omega
  · have := putS_le next 5
    have := putS_le len 2
    rw [List.length_append]; omega
theorem lnTs_len : ∀ L : List LnM, (L.flatMap lnT).length ≤ 16 * L.length
  | [] => Nat.le_refl _
  | x :: L => by
    rw [List.flatMap_cons, List.length_append, List.length_cons]
    have := lnT_len x
    have := lnTs_len L
    omega
/-- a posting's text is some text -/
theorem txtS_some (L : List LnM) (h : L.length ≤ 20) : ∃ l : List UInt8, txtS L = bs l ∧ l.length ≤ 400 := by
  unfold txtS
  split
  · refine ⟨poT L, rfl, ?_⟩
    unfold poT
    rw [List.length_append]
    have := putS_le (L.length : Int) 1
    have := lnTs_len L
    omega
  · exact ⟨[], rfl, Nat.zero_le _⟩
end Go.Proofs.Ytbnbfnlfgmlcgaa

/-
  Layer 25: the document's Text, weakly: some text, of some bytes.
-/
--import Derived.Test.Zdbg
namespace Go.Proofs.Ytbnbfnlfgmlcgaa
set_option linter.unusedSimpArgs false
set_option linter.unusedVariables false
open Go.RowKit Go.WideShapes Go.ChangeShapes Go.ChangeAt Go.Deep

theorem flds_new {w : World} {g n : Nat} {m : List Fld} (hn : m.length = n) (h : w.heap[g]? = some (.cells (m.flatMap fc).toArray 92 (0, 0))) (hb : n * 4 ≤ 9223372036854775807) : FldsAt w w.heap.size (some ⟨g, 0, none⟩) m := fun i hi => by
  refine ⟨g, rfl, heap_lt h, fun j hj => ?_⟩
  rw [cell_of_block h, List.getElem?_toArray]
  exact flat_at fc 4 fc_length fld0 m i j hi hj
def txF (k1 s1 r1 am1 le1 v : Int) : List Fld := [⟨0, 1, k1, ⟨#[]⟩⟩, ⟨0, 4, IntKind.u64.wrap s1, ⟨#[]⟩⟩, ⟨0, 4, IntKind.u64.wrap r1, ⟨#[]⟩⟩, ⟨1, 0, IntKind.u64.wrap am1, ⟨#[]⟩⟩, ⟨1, 0, IntKind.u64.wrap le1, ⟨#[]⟩⟩, ⟨0, 1, v, ⟨#[]⟩⟩]
theorem txF_good {k1 s1 r1 am1 le1 v : Int} (hk : 0 ≤ k1 ∧ k1 ≤ 255) (hv : 0 ≤ v ∧ v ≤ 1) : ∀ f ∈ txF k1 s1 r1 am1 le1 v, FldGood f := by
  have hw : ∀ x : Int, 0 ≤ IntKind.u64.wrap x ∧ IntKind.u64.wrap x ≤ 18446744073709551615 := fun x => by rw [IntKind.wrap_u64]; omega
  intro f hf
  unfold txF at hf
  simp only [List.mem_cons, List.not_mem_nil, or_false] at hf
  rcases hf with rfl | rfl | rfl | rfl | rfl | rfl
  · exact ⟨⟨by dsimp only; omega, by dsimp only; omega⟩, ⟨by dsimp only; omega, by dsimp only; omega⟩, ⟨by dsimp only; omega, by dsimp only; omega⟩, by show 0 ≤ 300; omega⟩
  · exact ⟨⟨by dsimp only; omega, by dsimp only; omega⟩, ⟨by dsimp only; omega, by dsimp only; omega⟩, hw _, by show 0 ≤ 300; omega⟩
  · exact ⟨⟨by dsimp only; omega, by dsimp only; omega⟩, ⟨by dsimp only; omega, by dsimp only; omega⟩, hw _, by show 0 ≤ 300; omega⟩
  · exact ⟨⟨by dsimp only; omega, by dsimp only; omega⟩, ⟨by dsimp only; omega, by dsimp only; omega⟩, hw _, by show 0 ≤ 300; omega⟩
  · exact ⟨⟨by dsimp only; omega, by dsimp only; omega⟩, ⟨by dsimp only; omega, by dsimp only; omega⟩, hw _, by show 0 ≤ 300; omega⟩
  · exact ⟨⟨by dsimp only; omega, by dsimp only; omega⟩, ⟨by dsimp only; omega, by dsimp only; omega⟩, ⟨by dsimp only; omega, by dsimp only; omega⟩, by show 0 ≤ 300; omega⟩
theorem bs_three (a b c : List UInt8) : bs a ++ bs b ++ bs c = bs (a ++ b ++ c) := by rw [bs_append, bs_append]
def RTextIs (T : List TxA) (w : World) (e : Ending) (w' : World) : Prop := ∃ l : List UInt8, e = .returned (.string (bs l)) ∧ 1 ≤ l.length ∧ l.length ≤ 600 + 2300 * T.length ∧ Below w.heap.size w w'
set_option maxRecDepth 100000 in
set_option maxHeartbeats 4000000 in
theorem rtext_weak (keep next : Int) (hnx : 1 ≤ next ∧ next ≤ 4294967296) (a : Option Addr) (cp : Nat) (T : List TxA) (hT : T.length ≤ 500) (w : World) (h : RegD w a cp T) (hW : ∀ y ∈ T, WkOk y.t) :
    Calls Try.prog 9 #[regV keep next a T.length cp] w (RTextIs T w) := by
  have HH := hide (head_some next T.length hnx ⟨by omega, by omega⟩)
  have HHG := hide (headF_good next T.length hnx ⟨by omega, by omega⟩)
  have HDM := hide (fun W (hb : Below w.heap.size w W) => h.below hb)
  have HWK := hide hW
  have HLN := hide (fun y hy W (hb : Below w.heap.size w W) => ((h.lines y hy).below hb).lnIn)
  have HTL := hide hT
  have HCP := hide h.cap
  have hu1 : IntKind.u64.wrap next = next := by rw [IntKind.wrap_u64]; omega
  have hu2 : IntKind.u64.wrap (T.length : Int) = (T.length : Int) := by rw [IntKind.wrap_u64]; omega
  clear hT hnx h hW
  unfold regV at *
  have hal := (Below.refl w.heap.size w).alloc (Nat.le_refl _) (.cells #[.int .i64 keep, .int .i64 next, .slice a T.length cp] 27)
  have X1 := hide (heap_new w (.cells #[.int .i64 keep, .int .i64 next, .slice a T.length cp] 27))
  have B1 := hide hal
  clear hal
  go_enter Try.func9, Try.ntmps9
  go_upto_region 1 with (fail)
  generalize w.alloc (.cells #[.int .i64 keep, .int .i64 next, .slice a T.length cp] 27) = w1 at *
  obtain ⟨mb, hmb⟩ : ∃ k, w.heap.size = k := ⟨_, rfl⟩
  have HMB := hide (show w.heap.size ≤ mb by omega)
  rw [hmb] at X1 ⊢
  clear hmb
  have m1 := cell_of_block X1.out 1
  have m2 := cell_of_block X1.out 2
  go_upto_region 2 with (fail)
  have hal := (Below.refl w1.heap.size w1).alloc (Nat.le_refl _) (.cells #[.int .i64 0, .int .i64 5, .int .u64 (next), .string ⟨#[]⟩, .int .i64 0, .int .i64 2, .int .u64 ((T.length : Int)), .string ⟨#[]⟩] 92)
  have XF := hide (heap_new w1 (.cells #[.int .i64 0, .int .i64 5, .int .u64 (next), .string ⟨#[]⟩, .int .i64 0, .int .i64 2, .int .u64 ((T.length : Int)), .string ⟨#[]⟩] 92))
  have X2 := hide ((hal.block _ (heap_lt X1.out)).trans X1.out)
  have B2 := hide (B1.out.trans (hal.mono B1.out.size))
  clear hal X1 B1 m1 m2 hu1 hu2
  generalize w1.alloc (.cells #[.int .i64 0, .int .i64 5, .int .u64 (next), .string ⟨#[]⟩, .int .i64 0, .int .i64 2, .int .u64 ((T.length : Int)), .string ⟨#[]⟩] 92) = w2 at *
  generalize w1.heap.size = fb at *
  have HWR := hide (refWrite_any (headF next T.length) (by show 2 ≤ 1000; omega) HHG.out (some ⟨fb, 0, none⟩) 2 w2 (flds_new (n := 2) rfl XF.out (by decide)))
  obtain ⟨l0, hl0, hl1, hl2⟩ := HH.out
  rw [hl0] at HWR
  generalize (!(wrFs (headF next T.length)).2) = bb0 at *
  go_wp2_with fail
  refine HWR.out.mono ?_
  rintro e w3 ⟨rfl, hb⟩
  have X3 := hide ((hb.block _ (heap_lt X2.out)).trans X2.out)
  have B3 := hide (B2.out.trans (hb.mono B2.out.size))
  have HL := hide (And.intro hl1 hl2)
  clear hb X2 B2 XF HWR HHG HH hl0 hl1 hl2
  go_wp2_with fail
  go_loopw [4, 6] (fun s4 i W => ∃ (k : Nat) (l : List UInt8), k ≤ T.length ∧ s4 = .string (bs l) ∧ i = .int .i64 k ∧ 1 ≤ l.length ∧ l.length ≤ 600 + 2300 * k ∧ W.heap[mb]? = some (.cells #[.int .i64 keep, .int .i64 next, .slice a T.length cp] 27 (0, 0)) ∧ Below w.heap.size w W) (fun _ i _ => T.length - (intOf i).toNat)
  case atStart => exact ⟨0, l0, by omega, rfl, rfl, HL.out.1, by have := HL.out.2; omega, X3.out, B3.out⟩
  case round =>
  obtain ⟨k, l, hk, rfl, rfl, hl1, hl2, hx, hb⟩ := hrel
  have HL9 := hide (And.intro hl1 hl2)
  have XW := hide hx
  have BW := hide hb
  clear hl1 hl2 hx hb X3 B3 HL
  have m2 := cell_of_block XW.out 2
  by_cases hlt : k < T.length
  · have HKL := hide hlt
    obtain ⟨g, ha, hgl, hc⟩ := (HDM.out _ BW.out).at k hlt
    have HYM := hide (show T.getD k ta0 ∈ T by simp [List.getD, hlt])
    have HYK := hide (HWK.out (T.getD k ta0) HYM.out)
    have HYL := hide (HLN.out (T.getD k ta0) HYM.out)
    rw [show (#[.int .i64 keep, .int .i64 next, .slice a T.length cp] : Array Value)[2]? = some (.slice a T.length cp) from rfl, ha] at m2
    have HA := hide ha
    have hlti : (k : Int) < (T.length : Int) := by omega
    clear HYM ha
    generalize T.getD k ta0 = yy at *
    obtain ⟨⟨n1, k1, s1, r1, am1, le1, v1, L1⟩, la1, lc1⟩ := yy
    (try dsimp only at HYK)
    (try dsimp only at HYL)
    have y0 : wr.cell? ⟨g, k * 8, none⟩ = some (.int .i64 n1) := hc 0 (by decide)
    have y1 : wr.cell? ⟨g, k * 8 + 1, none⟩ = some (.int .u8 k1) := hc 1 (by decide)
    have y2 : wr.cell? ⟨g, k * 8 + 2, none⟩ = some (.int .i64 s1) := hc 2 (by decide)
    have y3 : wr.cell? ⟨g, k * 8 + 3, none⟩ = some (.int .i64 r1) := hc 3 (by decide)
    have y4 : wr.cell? ⟨g, k * 8 + 4, none⟩ = some (.int .i64 am1) := hc 4 (by decide)
    have y5 : wr.cell? ⟨g, k * 8 + 5, none⟩ = some (.int .i64 le1) := hc 5 (by decide)
    have y6 : wr.cell? ⟨g, k * 8 + 6, none⟩ = some (.bool v1) := hc 6 (by decide)
    have y7 : wr.cell? ⟨g, k * 8 + 7, none⟩ = some (.slice la1 L1.length lc1) := hc 7 (by decide)
    clear hc hlt
    go_upto_region 7 with (refine rw_store rfl 38 (.tmp 7) (.tmp 40) rfl wr.heap.size rfl #[.int .i64 n1, .int .u8 k1, .int .i64 s1, .int .i64 r1, .int .i64 am1, .int .i64 le1, .bool v1, .slice la1 L1.length lc1] rfl _ (heap_new wr (.cells #[.int .i64 0, .int .u8 0, .int .i64 0, .int .i64 0, .int .i64 0, .int .i64 0, .bool false, .slice none 0 0] 38)) (by kernel_rfl) rfl (by simp [Value.oneCell']) ?_)
    have XB := hide (heap_new wr (.cells #[.int .i64 0, .int .u8 0, .int .i64 0, .int .i64 0, .int .i64 0, .int .i64 0, .bool false, .slice none 0 0] 38))
    have hal := (Below.refl wr.heap.size wr).alloc (Nat.le_refl _) (.cells #[.int .i64 0, .int .u8 0, .int .i64 0, .int .i64 0, .int .i64 0, .int .i64 0, .bool false, .slice none 0 0] 38)
    have hbb := setRow_below (hal.trans (Below.refl _ _)) (Nat.le_refl _) hal.size (#[.int .i64 n1, .int .u8 k1, .int .i64 s1, .int .i64 r1, .int .i64 am1, .int .i64 le1, .bool v1, .slice la1 L1.length lc1] : Array Value)
    have XT := hide (setRow_same (cs := (#[.int .i64 n1, .int .u8 k1, .int .i64 s1, .int .i64 r1, .int .i64 am1, .int .i64 le1, .bool v1, .slice la1 L1.length lc1] : Array Value)) XB.out)
    have X9 := hide ((hbb.block _ (heap_lt XW.out)).trans XW.out)
    have B9 := hide (BW.out.trans (hbb.mono BW.out.size))
    clear hal hbb XB XW BW y0 y1 y2 y3 y4 y5 y6 y7 m2
    generalize (wr.alloc (.cells #[.int .i64 0, .int .u8 0, .int .i64 0, .int .i64 0, .int .i64 0, .int .i64 0, .bool false, .slice none 0 0] 38)).setRow wr.heap.size (#[.int .i64 n1, .int .u8 k1, .int .i64 s1, .int .i64 r1, .int .i64 am1, .int .i64 le1, .bool v1, .slice la1 L1.length lc1] : Array Value) = w9 at *
    generalize wr.heap.size = tb at *
    have y6 := cell_of_block XT.out 6
    go_upto_if 42 with (fail)
    clear y6
    go_cut [8] from 43 to 81 (fun s8 W => (∃ v : Int, (0 ≤ v ∧ v ≤ 1) ∧ s8 = .int .u64 v) ∧ W = w9)
    case first =>
      cases v1 with
      | true =>
        go_wp2_with fail
        go_meet
        exact ⟨⟨1, by omega, rfl⟩, rfl⟩
      | false =>
        go_wp2_with fail
        go_meet
        exact ⟨⟨0, by omega, rfl⟩, rfl⟩
    case rest =>
    obtain ⟨⟨v, hv, rfl⟩, rfl⟩ := hcut
    have HV := hide hv
    clear hv
    have y1 := cell_of_block XT.out 1
    have y2 := cell_of_block XT.out 2
    have y3 := cell_of_block XT.out 3
    have y4 := cell_of_block XT.out 4
    have y5 := cell_of_block XT.out 5
    have huk : IntKind.u64.wrap k1 = k1 := by have := HYK.out.ok.kind; dsimp only at this; rw [IntKind.wrap_u64]; omega
    go_upto_region 11 with (fail)
    clear huk
    have hal := (Below.refl wc.heap.size wc).alloc (Nat.le_refl _) (.cells #[.int .i64 0, .int .i64 1, .int .u64 (k1), .string ⟨#[]⟩, .int .i64 0, .int .i64 4, .int .u64 (IntKind.u64.wrap s1), .string ⟨#[]⟩, .int .i64 0, .int .i64 4, .int .u64 (IntKind.u64.wrap r1), .string ⟨#[]⟩, .int .i64 1, .int .i64 0, .int .u64 (IntKind.u64.wrap am1), .string ⟨#[]⟩, .int .i64 1, .int .i64 0, .int .u64 (IntKind.u64.wrap le1), .string ⟨#[]⟩, .int .i64 0, .int .i64 1, .int .u64 (v), .string ⟨#[]⟩] 92)
    have XF := hide (heap_new wc (.cells #[.int .i64 0, .int .i64 1, .int .u64 (k1), .string ⟨#[]⟩, .int .i64 0, .int .i64 4, .int .u64 (IntKind.u64.wrap s1), .string ⟨#[]⟩, .int .i64 0, .int .i64 4, .int .u64 (IntKind.u64.wrap r1), .string ⟨#[]⟩, .int .i64 1, .int .i64 0, .int .u64 (IntKind.u64.wrap am1), .string ⟨#[]⟩, .int .i64 1, .int .i64 0, .int .u64 (IntKind.u64.wrap le1), .string ⟨#[]⟩, .int .i64 0, .int .i64 1, .int .u64 (v), .string ⟨#[]⟩] 92))
    have X10 := hide ((hal.block _ (heap_lt X9.out)).trans X9.out)
    have XT10 := hide ((hal.block _ (heap_lt XT.out)).trans XT.out)
    have B10 := hide (B9.out.trans (hal.mono B9.out.size))
    clear hal X9 XT B9 y1 y2 y3 y4 y5
    generalize wc.alloc (.cells #[.int .i64 0, .int .i64 1, .int .u64 (k1), .string ⟨#[]⟩, .int .i64 0, .int .i64 4, .int .u64 (IntKind.u64.wrap s1), .string ⟨#[]⟩, .int .i64 0, .int .i64 4, .int .u64 (IntKind.u64.wrap r1), .string ⟨#[]⟩, .int .i64 1, .int .i64 0, .int .u64 (IntKind.u64.wrap am1), .string ⟨#[]⟩, .int .i64 1, .int .i64 0, .int .u64 (IntKind.u64.wrap le1), .string ⟨#[]⟩, .int .i64 0, .int .i64 1, .int .u64 (v), .string ⟨#[]⟩] 92) = w10 at *
    generalize wc.heap.size = fb1 at *
    have HWR := hide (refWrite_any (txF k1 s1 r1 am1 le1 v) (by show 6 ≤ 1000; omega) (txF_good HYK.out.ok.kind HV.out) (some ⟨fb1, 0, none⟩) 6 w10 (flds_new (n := 6) rfl XF.out (by decide)))
    obtain ⟨l5, hl5, hl6⟩ := refS_some (txF k1 s1 r1 am1 le1 v)
    rw [hl5] at HWR
    have HL5 := hide (show l5.length ≤ 1800 from hl6)
    clear hl5 hl6
    generalize (!(wrFs (txF k1 s1 r1 am1 le1 v)).2) = bb1 at *
    go_wp2_with fail
    refine HWR.out.mono ?_
    rintro e w11 ⟨rfl, hb⟩
    have X11 := hide ((hb.block _ (heap_lt X10.out)).trans X10.out)
    have XT11 := hide ((hb.block _ (heap_lt XT10.out)).trans XT10.out)
    have B11 := hide (B10.out.trans (hb.mono B10.out.size))
    clear hb X10 XT10 B10 XF HWR
    have y7 := cell_of_block XT11.out 7
    have HRT := hide (rptext L1 HYK.out.few HYK.out.ok.L la1 lc1 w11 (HYL.out _ B11.out))
    obtain ⟨l7, hl7, hl8⟩ := txtS_some L1 HYK.out.few
    rw [hl7] at HRT
    have HL7 := hide hl8
    clear hl7 hl8
    generalize textOk L1 = bb2 at *
    go_wp2_with fail
    refine HRT.out.mono ?_
    rintro e w12 ⟨rfl, hb⟩
    have X12 := hide ((hb.block _ (heap_lt X11.out)).trans X11.out)
    have B12 := hide (B11.out.trans (hb.mono B11.out.size))
    clear hb X11 XT11 B11 y7 HRT
    have hbd : IntKind.i64.wrap ((k : Int) + 1) = (k : Int) + 1 := by rw [IntKind.wrap_i64]; have := HTL.out; have := HKL.out; omega
    have hs1 : ((bs l).size : Int) ≤ 2000000 := by rw [bs_size]; have := HL9.out; have := HKL.out; have := HTL.out; omega
    have hs5 : ((bs l5).size : Int) ≤ 1800 := by rw [bs_size]; have := HL5.out; omega
    have hs7 : ((bs l7).size : Int) ≤ 400 := by rw [bs_size]; have := HL7.out; omega
    have HB3 := hide (bs_three l l5 l7)
    go_wp2_with fail
    go_roundw
    case rel => exact ⟨k + 1, l ++ l5 ++ l7, HKL.out, by first | (rw [HB3.out]) | rfl, by go_num, by have := HL9.out; simp only [List.length_append]; omega, by have := HL9.out; have := HL5.out; have := HL7.out; simp only [List.length_append]; omega, X12.out, B12.out⟩
    case measure => have := HKL.out; simp [intOf]; omega
  · obtain rfl : k = T.length := by omega
    go_wp2_with fail
    go_ret
    exact ⟨l, rfl, HL9.out.1, HL9.out.2, BW.out⟩
end Go.Proofs.Ytbnbfnlfgmlcgaa
