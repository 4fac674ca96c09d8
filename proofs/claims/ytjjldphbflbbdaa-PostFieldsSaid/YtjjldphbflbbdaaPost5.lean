/-
  Layer 22: accounts of the law; lines.
-/
import Derived.Test.YtjjldphbflbbdaaPost4
import Derived.Lib.OwnKind
--import Derived.Test.Zdbg
namespace Go.Proofs.Ytjjldphbflbbdaa
set_option linter.unusedSimpArgs false
set_option linter.unusedVariables false
open Go.RowKit Go.WideShapes Go.ChangeShapes Go.ChangeAt Go.Deep

theorem owns_kept_o {w w' : World} {B e e' n n' m m' B' : Nat} {v v' : Value} {xs xs' : List Value} (h : w.ownsRow B e m v n xs) (h' : w.ownsRow B' e' m' v' n' xs') (he : e ≠ e') (hg : w.grownBy w' v'.ownBlock) : w'.ownsRow B e m v n xs := by
  refine ⟨h.1, ?_⟩
  rcases h.2 with h3 | ⟨g, cap', cur, hv, hb, hh, h4⟩
  · exact .inl h3
  · refine .inr ⟨g, cap', cur, hv, hb, ?_, h4⟩
    rw [hg.block g (heap_lt hh) ?_]
    · exact hh
    · intro hq
      obtain ⟨c, fz, hc⟩ := Go.Lib.ownsRow_kind h' g hq.symm
      rw [hh] at hc
      simp only [Option.some.injEq, Obj.cells.injEq] at hc
      exact he hc.2.1
def accL (k : Nat) : List Int := (List.range k).map fun (i : Nat) => (i : Int) + 1
theorem accL_len (k : Nat) : (accL k).length = k := by simp [accL]
theorem accL_next (k : Nat) : accL (k + 1) = accL k ++ [((k + 1 : Nat) : Int)] := by simp [accL, List.range_succ]
theorem accL_mem (k : Nat) (c : Int) : c ∈ accL k ↔ 1 ≤ c ∧ c ≤ (k : Int) := by
  unfold accL
  rw [List.mem_map]
  constructor
  · rintro ⟨i, hi, rfl⟩
    have := List.mem_range.1 hi
    omega
  · rintro ⟨h1, h2⟩
    exact ⟨(c - 1).toNat, List.mem_range.2 (by omega), by omega⟩
set_option maxRecDepth 100000 in
set_option maxHeartbeats 800000 in
theorem accounts_any (w : World) :
    Calls Try.prog 7 #[] w fun e w' => ∃ p bm a c, e = .returned (.tuple #[.pointer (some ⟨p, 0, none⟩), .slice a 5 c]) ∧ ChartAt w' p bm 5 ∧ AcIn w' a (accL 5) ∧ Below w.heap.size w w' := by
  go_enter Try.func7, Try.ntmps7
  go_wp2_with fail
  refine (chartNew _).mono ?_
  rintro e w1 ⟨p, bm, rfl, hc, hbm, hp, hb⟩
  have C1 := hide hc
  have HBM := hide hbm
  have B1 := hide hb
  clear hc hbm hp hb
  go_wp2_with fail
  go_loopw [3, 6] (fun s i W => ∃ (k : Nat) (a3 : Option Addr) (c3 : Nat), k ≤ 5 ∧ i = .int .i64 k ∧ s = .slice a3 k c3 ∧ W.ownsRow w.heap.size 79 3 (.slice a3 k c3) k ((accL k).flatMap acC) ∧ ChartAt W p bm k ∧ Below w.heap.size w W) (fun s i _ => 5 - (intOf i).toNat)
  case atStart => exact ⟨0, none, 0, by omega, rfl, rfl, World.ownsRow_nil _ _ _ _, C1.out, B1.out⟩
  case round =>
    obtain ⟨k, a3, c3, hk, rfl, rfl, ho, hc, hb⟩ := hrel
    have OK := hide ho
    have CK := hide hc
    have BK := hide hb
    clear ho hc hb C1 B1
    by_cases hlt : k < 5
    · have HCA := hide (cadd_any p bm k (by omega) wr CK.out)
      have HRA := hide (fun W (hin : AcIn W a3 (accL k)) => show Calls Try.prog 27 #[.slice a3 k c3, .agg #[.int .i64 ((k : Int) + 1), .int .u8 1, .string ⟨#[120]⟩]] W fun e w' => ∃ a' c', e = .returned (.tuple #[.slice a' (k + 1) c', .int .i64 0]) ∧ w'.ownsRow W.heap.size 79 3 (.slice a' (k + 1) c') (k + 1) ((accL (k + 1)).flatMap acC) ∧ Below W.heap.size W w' by
        have h1 := radd_x (accL k) (k + 1) (by omega) (by rw [accL_len]; omega) (fun x hx => by have := (accL_mem k x).1 hx; omega) a3 c3 W hin
        rw [accL_len, ← accL_next] at h1
        exact h1)
      go_wp2_with fail
      refine HCA.out.mono ?_
      rintro e w2 ⟨rfl, hc, ho⟩
      have CM := hide hc
      obtain ⟨cc, ff, hM, -, -⟩ := CK.out.map
      have O2 := hide (owns_beside OK.out ho (map_noCells hM))
      have B2 := hide (ho.below BK.out HBM.out BK.out.size)
      clear hc ho hM OK CK BK HCA
      have A2 := hide (AcIn.of_owns (L := accL k) (by rw [accL_len]; exact O2.out))
      go_wp2_with fail
      refine (HRA.out _ A2.out).mono ?_
      rintro e w3 ⟨a4, c4, rfl, ho, hb⟩
      have O3 := hide (owns_base ho B2.out.size)
      have C3 := hide (CM.out.below hb)
      have B3 := hide (B2.out.trans (hb.mono B2.out.size))
      clear ho hb O2 CM B2 A2 HRA
      go_wp2_with fail
      go_roundw
      case rel => exact ⟨k + 1, a4, c4, by omega, by go_num, rfl, O3.out, C3.out, B3.out⟩
      case measure => simp [intOf]; omega
    · obtain rfl : k = 5 := by omega
      rw [show ((5 : Nat) : Int) = 5 from rfl]
      go_wp2_with fail
      go_ret2
      exact ⟨p, bm, a3, c3, rfl, CK.out, AcIn.of_owns (L := accL 5) (c := c3) (by rw [accL_len]; exact OK.out), BK.out⟩
def LinesIs (L : List LnM) (n : Nat) (w : World) (e : Ending) (w' : World) : Prop := ∃ a1 c1 a2 c2, e = .returned (.tuple #[.slice a1 n c1, .slice a2 n c2]) ∧ n ≤ c1 ∧ n ≤ c2 ∧ LnIn w' a1 (L.take n) ∧ LnIn w' a2 (L.take n) ∧ Below w.heap.size w w'
theorem owns_cap {w : World} {B e m n c : Nat} {a : Option Addr} {xs : List Value} (h : w.ownsRow B e m (.slice a n c) n xs) : n ≤ c := by
  rcases h.2 with ⟨hv, rfl⟩ | ⟨g, cap', cur, hv, hb, hh, h4, -⟩
  · exact Nat.zero_le _
  · simp only [Value.slice.injEq] at hv
    obtain ⟨-, -, rfl⟩ := hv
    exact h4
set_option maxRecDepth 100000 in
set_option maxHeartbeats 1000000 in
theorem lines_any (L : List LnM) (a : Option Addr) (cap n : Nat) (hn : min L.length 20 = n) (hcap : L.length ≤ cap) (w : World) (hin : LnIn w a L) :
    Calls Try.prog 9 #[.slice a L.length cap] w (LinesIs L n w) := by
  obtain ⟨i0, hi, hz0, hz1, hz2⟩ := info_parts (show (Try.prog.info? 81).map (fun i => (i.zero, i.size, i.bytes)) = some (some (.agg #[.int .i64 0, .int .i64 0]), 2, 16) by kernel_rfl)
  have HI := hide hi
  have HZ0 := hide hz0
  have HZ1 := hide hz1
  have HZ2 := hide hz2
  obtain ⟨i1, hi1, hy0, hy1, hy2⟩ := info_parts (show (Try.prog.info? 82).map (fun i => (i.zero, i.size, i.bytes)) = some (some (.agg #[.int .i64 0, .int .i64 0]), 2, 16) by kernel_rfl)
  have HI1 := hide hi1
  have HY0 := hide hy0
  have HY1 := hide hy1
  have HY2 := hide hy2
  have HIN := hide hin
  have hmF : (if (20 : Int) < (L.length : Int) then (20 : Int) else (L.length : Int)) = (n : Int) := by split <;> omega
  have hmI : min (L.length : Int) 20 = (n : Int) := by omega
  have hn20 : n ≤ 20 := by omega
  have hnl : n ≤ L.length := by omega
  have hcI : (n : Int) ≤ (cap : Int) := by omega
  clear hi hz0 hz1 hz2 hi1 hy0 hy1 hy2 hin hn
  go_enter Try.func9, Try.ntmps9
  go_wp2_with fail
  go_loopw [4, 5, 14] (fun s t i W => ∃ (k : Nat) (a4 : Option Addr) (c4 : Nat) (a5 : Option Addr) (c5 : Nat), k ≤ n ∧ i = .int .i64 k ∧ s = .slice a4 k c4 ∧ t = .slice a5 k c5 ∧ W.ownsRow w.heap.size 81 2 (.slice a4 k c4) k ((L.take k).flatMap lnC) ∧ W.ownsRow w.heap.size 82 2 (.slice a5 k c5) k ((L.take k).flatMap lnC) ∧ Below w.heap.size w W) (fun s t i _ => n - (intOf i).toNat)
  case atStart => exact ⟨0, none, 0, none, 0, by omega, rfl, rfl, rfl, World.ownsRow_nil _ _ _ _, World.ownsRow_nil _ _ _ _, Below.refl _ _⟩
  case round =>
    obtain ⟨k, a4, c4, a5, c5, hk, rfl, rfl, rfl, ho, ho', hb⟩ := hrel
    have OA := hide ho
    have OB := hide ho'
    have BK := hide hb
    clear ho ho' hb
    by_cases hlt : k < n
    · obtain ⟨b, off, rfl, hbl, c0, c1⟩ := (HIN.out.below BK.out) k (by omega)
      have HTN := hide (ln_next L k (by omega))
      generalize L.getD k ln0 = x at *
      obtain ⟨xc, xn⟩ := x
      dsimp only at *
      go_upto_region 6 with (fail)
      obtain ⟨ob, hob⟩ : ∃ ob, ob = (Obj.cells #[.int .i64 xc, .int .i64 xn] 69) := ⟨_, rfl⟩
      rw [← hob]
      have hal := (Below.refl wr.heap.size wr).alloc (Nat.le_refl _) ob
      have X1 := hide (show (wr.alloc ob).heap[wr.heap.size]? = some (.cells #[.int .i64 xc, .int .i64 xn] 69 (0, 0)) by rw [heap_new, hob])
      have OA1 := hide (owns_below OA.out hal)
      have OB1 := hide (owns_below OB.out hal)
      have B1 := hide (BK.out.alloc BK.out.size ob)
      clear hal OA OB BK hbl c0 c1
      generalize wr.alloc ob = w1 at *
      generalize wr.heap.size = q at *
      clear hob ob
      have d0 := cell_of_block X1.out 0
      have d1 := cell_of_block X1.out 1
      have hal := (Below.refl w1.heap.size w1).alloc (Nat.le_refl _) (.cells #[.int .i64 xc, .int .i64 xn] 81)
      have XB := hide (heap_new w1 (.cells #[.int .i64 xc, .int .i64 xn] 81))
      have X2 := hide ((hal.block _ (heap_lt X1.out)).trans X1.out)
      have OA2 := hide (owns_below OA1.out hal)
      have OB2 := hide (owns_below OB1.out hal)
      have B2 := hide (B1.out.alloc B1.out.size (.cells #[.int .i64 xc, .int .i64 xn] 81))
      have hw2 : w.heap.size ≤ (w1.alloc (.cells #[.int .i64 xc, .int .i64 xn] 81)).heap.size := B2.out.size
      clear hal OA1 OB1 B1
      go_upto_region 7 with (at_builtin; refine wpList_append_own2 _ rfl _ _ 30 rfl w.heap.size 81 i0 (.agg #[.int .i64 0, .int .i64 0]) 2 16 Try.underlying30 HI.out HZ0.out HZ1.out HZ2.out rfl (by decide) (.slice a4 k c4) k ((L.take k).flatMap lnC) rfl OA2.out ⟨w1.heap.size, 0, none⟩ 1 1 (by decide) (lnC ⟨xc, xn⟩) rfl rfl (cells_new XB.out) (lnC_one _) (by unfold maxLen; omega) (by omega) hw2 ?_; intro g3 c3' w3 ho hgr hnil; have OA3 := hide ho; have OB3 := hide (owns_kept_o OB2.out OA2.out (by decide) hgr); have B3 := hide (B2.out.grown hgr B2.out.size (fun jj h => (OA2.out.lt jj h).1)); have X3 := hide ((hgr.block q (heap_lt X2.out) (fun h => by obtain ⟨cq, fq, hcq⟩ := Go.Lib.ownsRow_kind OA2.out q h.symm; rw [X2.out] at hcq; simp only [Option.some.injEq, Obj.cells.injEq] at hcq; exact absurd hcq.2.1 (by decide))).trans X2.out); clear ho hgr hnil)
      clear OA2 OB2 B2 X2 X1 XB hw2 d0 d1
      have d0 := cell_of_block X3.out 0
      have d1 := cell_of_block X3.out 1
      have hal := (Below.refl w3.heap.size w3).alloc (Nat.le_refl _) (.cells #[.int .i64 xc, .int .i64 xn] 82)
      have XB := hide (heap_new w3 (.cells #[.int .i64 xc, .int .i64 xn] 82))
      have OA4 := hide (owns_below OA3.out hal)
      have OB4 := hide (owns_below OB3.out hal)
      have B4 := hide (B3.out.alloc B3.out.size (.cells #[.int .i64 xc, .int .i64 xn] 82))
      have hw2 : w.heap.size ≤ (w3.alloc (.cells #[.int .i64 xc, .int .i64 xn] 82)).heap.size := B4.out.size
      clear hal OA3 OB3 B3
      go_wp2_with (at_builtin; refine wpList_append_own2 _ rfl _ _ 31 rfl w.heap.size 82 i1 (.agg #[.int .i64 0, .int .i64 0]) 2 16 Try.underlying31 HI1.out HY0.out HY1.out HY2.out rfl (by decide) (.slice a5 k c5) k ((L.take k).flatMap lnC) rfl OB4.out ⟨w3.heap.size, 0, none⟩ 1 1 (by decide) (lnC ⟨xc, xn⟩) rfl rfl (cells_new XB.out) (lnC_one _) (by unfold maxLen; omega) (by omega) hw2 ?_; intro g5 c5' w5 ho hgr hnil; have OB5 := hide ho; have OA5 := hide (owns_kept_o OA4.out OB4.out (by decide) hgr); have B5 := hide (B4.out.grown hgr B4.out.size (fun jj h => (OB4.out.lt jj h).1)); clear ho hgr hnil)
      go_roundw
      case rel => exact ⟨k + 1, _, _, _, _, by omega, by go_num, rfl, rfl, by rw [HTN.out, List.flatMap_append]; simpa using OA5.out, by rw [HTN.out, List.flatMap_append]; simpa using OB5.out, B5.out⟩
      case measure => simp [intOf]; omega
    · obtain rfl : n = k := by omega
      have hl : (L.take n).length = n := by rw [List.length_take]; omega
      go_wp2_with fail
      go_ret2
      exact ⟨a4, c4, a5, c5, rfl, owns_cap OA.out, owns_cap OB.out, LnIn.of_owns (c := c4) (by rw [hl]; exact OA.out), LnIn.of_owns (c := c5) (by rw [hl]; exact OB.out), BK.out⟩
end Go.Proofs.Ytjjldphbflbbdaa
