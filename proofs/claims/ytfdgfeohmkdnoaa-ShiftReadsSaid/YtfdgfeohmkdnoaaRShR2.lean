import Derived.Test.YtfdgfeohmkdnoaaMShR
import Derived.Test.YtfdgfeohmkdnoaaKitRow
import Derived.Test.YtfdgfeohmkdnoaaShG3
import Derived.Test.YtfdgfeohmkdnoaaRSh2
/-
  Layer 26: the document's number and one.
-/
--import Derived.Test.Zdbg
namespace Go.Proofs.Ytfdgfeohmkdnoaa
set_option linter.unusedSimpArgs false
set_option linter.unusedVariables false
open Go.RowKit Go.WideShapes Go.ChangeShapes Go.ChangeAt Go.Deep
theorem get_bs (t : List UInt8) (i : Nat) (h : i < (bs t).size) : (bs t)[i]'h = t.getD i 0 := by
  have h' : i < t.length := h
  have e : t.getD i 0 = t[i] := by simp [List.getD, h']
  rw [e]; rfl
theorem getN_take_next (l : List UInt8) (k : Nat) (h : k < l.length) : getN (l.take (k + 1)) = 256 * getN (l.take k) + (l.getD k 0).toNat := by
  have e : l.take (k + 1) = l.take k ++ [l.getD k 0] := by
    rw [List.take_add_one, show l[k]? = some (l.getD k 0) by simp [List.getD, h]]
    rfl
  rw [e, getN_snoc, Nat.mul_comm]
theorem getN_lt8 (l : List UInt8) (h : l.length ≤ 8) : getN l < 18446744073709551616 := by
  have h1 := getN_lt l
  have h2 : 256 ^ l.length ≤ 256 ^ 8 := Nat.pow_le_pow_right (by decide) h
  omega
set_option maxRecDepth 100000 in
set_option maxHeartbeats 1000000 in
theorem rnum_any (l : List UInt8) (hl : l.length ≤ 8) (w : World) :
    Calls Try.prog 43 #[.string (bs l)] w fun e w' => e = .returned (.int .u64 (getN l : Int)) ∧ w = w' := by
  have HB := hide (fun i h => get_bs l i h)
  have hsz : (bs l).size = l.length := bs_size l
  have HN := hide (fun k h => getN_take_next l k h)
  have HLT := hide (fun k => getN_lt8 (l.take k) (by rw [List.length_take]; omega))
  have HL := hide hl
  obtain ⟨T, hT⟩ : ∃ T, bs l = T := ⟨_, rfl⟩
  rw [hT] at HB hsz ⊢
  clear hT hl
  go_enter Try.func43, Try.ntmps43
  go_wp2_with fail
  go_loopw [3, 4] (fun n i W => ∃ k : Nat, k ≤ l.length ∧ i = .int .i64 k ∧ n = .int .u64 (getN (l.take k) : Int) ∧ w = W) (fun _ i _ => l.length - (intOf i).toNat)
  case atStart => exact ⟨0, by omega, rfl, rfl, rfl⟩
  case round =>
    obtain ⟨k, hk, rfl, rfl, rfl⟩ := hrel
    by_cases hlt : k < l.length
    · have hks : k < T.size := by omega
      have hb := HB.out k hks
      have hz := HN.out k hlt
      have hz2 := HLT.out (k + 1)
      rw [← hb] at hz
      obtain ⟨y, hy⟩ : ∃ y, (T[k]'hks).toNat = y := ⟨_, rfl⟩
      have hy2 : y < 256 := hy ▸ UInt8.toNat_lt _
      rw [hy] at hz
      have HZ := hide hz
      have hL := HL.out
      generalize getN (l.take k) = v at *
      have hlim : 256 * (v : Int) + (y : Int) < 18446744073709551616 := by omega
      have hu1 : IntKind.u64.wrap (256 * (v : Int)) = 256 * (v : Int) := by rw [IntKind.wrap_u64]; omega
      have hu2 : IntKind.u64.wrap (256 * (v : Int) + (y : Int)) = 256 * (v : Int) + (y : Int) := by rw [IntKind.wrap_u64]; omega
      have hu3 : IntKind.u64.wrap (y : Int) = (y : Int) := by rw [IntKind.wrap_u64]; omega
      clear hz hz2 hb
      go_wp2_with fail
      go_roundw
      case rel => exact ⟨k + 1, hlt, by go_num, by rw [HZ.out]; first | rfl | congr 1, by first | trivial | rfl⟩
      case measure => simp [intOf]; omega
    · obtain rfl : k = l.length := by omega
      rw [List.take_length]
      go_wp2_with fail
      go_ret
      exact ⟨rfl, rfl⟩
theorem totR_take (l : List UInt8) : totR (l.take 44) = totR l := by
  unfold totR
  simp only [List.take_take, List.drop_take]
  rfl
def ROneIs (l : List UInt8) (w : World) (e : Ending) (w' : World) : Prop := ((totB (totR l) = true ∧ e = .returned (.tuple #[totV (totR l), .bool true])) ∨ (totB (totR l) = false ∧ ∃ t, e = .returned (.tuple #[totV t, .bool false]))) ∧ Below w.heap.size w w'
set_option maxRecDepth 100000 in
set_option maxHeartbeats 4000000 in
theorem rone_any (l : List UInt8) (hl : l.length = 44) (w : World) :
    Calls Try.prog 44 #[.string (bs l)] w (ROneIs l w) := by
  have HNUM := hide (fun (a b : Nat) W (hab : a ≤ b ∧ b - a ≤ 8 ∧ b ≤ 44) => (show Calls Try.prog 43 #[.string ((bs l).extract a b)] W (fun e w' => e = .returned (.int .u64 (getN ((l.drop a).take (b - a)) : Int)) ∧ W = w') from by rw [bs_ext]; exact rnum_any _ (by rw [List.length_take]; omega) W))
  have hsz : (bs l).size = 44 := (bs_size l).trans hl
  have HC := hide (take4_lt l)
  obtain ⟨s, hs⟩ : ∃ s : Nat → Int, s = fun k => wrap64 (getN ((l.drop (4 + 8 * k)).take 8) : Int) := ⟨_, rfl⟩
  have HV := hide (show totR l = ⟨(getN (l.take 4) : Int), s 0, s 1, s 2, s 3, s 4⟩ from by rw [hs]; rfl)
  have HB := hide (show totB (totR l) = (((((true && decide (0 ≤ s 0)) && decide (0 ≤ s 1)) && decide (0 ≤ s 2)) && decide (0 ≤ s 3)) && decide (0 ≤ s 4)) from by rw [hs]; rfl)
  have HS := hide (fun k => (congrFun hs k).symm)
  have HN0 := hide (fun W => HNUM.out 0 4 W (by decide))
  have HN1 := hide (fun W => HNUM.out 4 12 W (by decide))
  have HN2 := hide (fun W => HNUM.out 12 20 W (by decide))
  have HN3 := hide (fun W => HNUM.out 20 28 W (by decide))
  have HN4 := hide (fun W => HNUM.out 28 36 W (by decide))
  have HN5 := hide (fun W => HNUM.out 36 44 W (by decide))
  have HS0 := hide (show wrap64 (getN ((l.drop 4).take (12 - 4)) : Int) = s 0 from HS.out 0)
  have HS1 := hide (show wrap64 (getN ((l.drop 12).take (20 - 12)) : Int) = s 1 from HS.out 1)
  have HS2 := hide (show wrap64 (getN ((l.drop 20).take (28 - 20)) : Int) = s 2 from HS.out 2)
  have HS3 := hide (show wrap64 (getN ((l.drop 28).take (36 - 28)) : Int) = s 3 from HS.out 3)
  have HS4 := hide (show wrap64 (getN ((l.drop 36).take (44 - 36)) : Int) = s 4 from HS.out 4)
  have HC0 := hide (show getN ((l.drop 0).take (4 - 0)) = getN (l.take 4) from rfl)
  generalize getN ((l.drop 4).take (12 - 4)) = v0 at *
  generalize getN ((l.drop 12).take (20 - 12)) = v1 at *
  generalize getN ((l.drop 20).take (28 - 20)) = v2 at *
  generalize getN ((l.drop 28).take (36 - 28)) = v3 at *
  generalize getN ((l.drop 36).take (44 - 36)) = v4 at *
  rw [HC0.out] at HN0
  generalize getN (l.take 4) = c at *
  have hc := HC.out
  have hcw : IntKind.i64.wrap (c : Int) = (c : Int) := by rw [IntKind.wrap_i64]; omega
  have hcw2 : wrap64 (c : Int) = (c : Int) := by unfold wrap64; omega
  obtain ⟨T, hT⟩ : ∃ T, bs l = T := ⟨_, rfl⟩
  rw [hT] at HN0 HN1 HN2 HN3 HN4 HN5 hsz ⊢
  have hx0 := HS0.out
  have hx1 := HS1.out
  have hx2 := HS2.out
  have hx3 := HS3.out
  have hx4 := HS4.out
  have hy0 : IntKind.i64.wrap (v0 : Int) = s 0 := by rw [← hx0, IntKind.wrap_i64]; unfold wrap64; omega
  have hy1 : IntKind.i64.wrap (v1 : Int) = s 1 := by rw [← hx1, IntKind.wrap_i64]; unfold wrap64; omega
  have hy2 : IntKind.i64.wrap (v2 : Int) = s 2 := by rw [← hx2, IntKind.wrap_i64]; unfold wrap64; omega
  have hy3 : IntKind.i64.wrap (v3 : Int) = s 3 := by rw [← hx3, IntKind.wrap_i64]; unfold wrap64; omega
  have hy4 : IntKind.i64.wrap (v4 : Int) = s 4 := by rw [← hx4, IntKind.wrap_i64]; unfold wrap64; omega
  clear hT HNUM hs HS HC HC0 hc
  go_enter Try.func44, Try.ntmps44
  go_upto_region 1 with (fail)
  have hal := (Below.refl w.heap.size w).alloc (Nat.le_refl _) (.cells #[.int .i64 0, .int .i64 0, .int .i64 0, .int .i64 0, .int .i64 0, .int .i64 0] 29)
  have XR1 := hide (heap_new w (.cells #[.int .i64 0, .int .i64 0, .int .i64 0, .int .i64 0, .int .i64 0, .int .i64 0] 29))
  have B1 := hide hal
  have HRB := hide (Nat.le_refl w.heap.size)
  clear hal
  generalize w.alloc (.cells #[.int .i64 0, .int .i64 0, .int .i64 0, .int .i64 0, .int .i64 0, .int .i64 0] 29) = w1 at *
  obtain ⟨rb, hrb⟩ : ∃ k, w.heap.size = k := ⟨_, rfl⟩
  have HRB := hide (show w.heap.size ≤ rb from by omega)
  rw [hrb] at XR1 ⊢
  clear hrb
  go_upto_region 2 with (fail)
  have hal := (Below.refl w1.heap.size w1).alloc (Nat.le_refl _) (.cells #[.int .i64 0, .int .i64 0, .int .i64 0, .int .i64 0, .int .i64 0, .int .i64 0] 29)
  have XT2 := hide (heap_new w1 (.cells #[.int .i64 0, .int .i64 0, .int .i64 0, .int .i64 0, .int .i64 0, .int .i64 0] 29))
  have XR2 := hide ((hal.block _ (heap_lt XR1.out)).trans XR1.out)
  have HNE := hide (show rb ≠ w1.heap.size from by have := heap_lt XR1.out; omega)
  have HTB := hide (show w.heap.size ≤ w1.heap.size from B1.out.size)
  have B2 := hide (B1.out.trans (hal.mono B1.out.size))
  clear hal XR1 B1
  generalize w1.alloc (.cells #[.int .i64 0, .int .i64 0, .int .i64 0, .int .i64 0, .int .i64 0, .int .i64 0] 29) = w2 at *
  generalize w1.heap.size = tb at *
  go_wp2_with fail
  refine (HN0.out _).mono ?_
  rintro e w3 ⟨rfl, rfl⟩
  have c0 := cell_of_block XT2.out 0
  have f0 := frozen_of_block XT2.out 0
  go_upto_region 4 with (fail)
  have XT3 := hide (show (w2.setCell ⟨tb, 0, none⟩ (.int .i64 (c : Int))).heap[tb]? = some (.cells #[.int .i64 (c : Int), .int .i64 0, .int .i64 0, .int .i64 0, .int .i64 0, .int .i64 0] 29 (0, 0)) from block_setCell XT2.out 0 (.int .i64 (c : Int)))
  have XR3 := hide ((block_setCell_other HNE.out.symm 0 (.int .i64 (c : Int))).trans XR2.out)
  have B3 := hide (B2.out.setCell (p := ⟨tb, 0, none⟩) HTB.out (.int .i64 (c : Int)))
  clear c0 f0 XT2 XR2 B2
  generalize w2.setCell ⟨tb, 0, none⟩ (.int .i64 (c : Int)) = w3 at *
  go_wp2_with fail
  go_loopw [6] (fun i W => ∃ (k : Nat) (cs : Array Value), k ≤ 5 ∧ i = .int .i64 k ∧ W.heap[tb]? = some (.cells cs 29 (0, 0)) ∧ W.heap[rb]? = some (.cells #[.int .i64 0, .int .i64 0, .int .i64 0, .int .i64 0, .int .i64 0, .int .i64 0] 29 (0, 0)) ∧ Below w.heap.size w W ∧ ((k = 0 ∧ cs = #[.int .i64 (c : Int), .int .i64 0, .int .i64 0, .int .i64 0, .int .i64 0, .int .i64 0]) ∨ (k = 1 ∧ cs = #[.int .i64 (c : Int), .int .i64 (s 0), .int .i64 0, .int .i64 0, .int .i64 0, .int .i64 0] ∧ 0 ≤ s 0) ∨ (k = 2 ∧ cs = #[.int .i64 (c : Int), .int .i64 (s 0), .int .i64 (s 1), .int .i64 0, .int .i64 0, .int .i64 0] ∧ 0 ≤ s 0 ∧ 0 ≤ s 1) ∨ (k = 3 ∧ cs = #[.int .i64 (c : Int), .int .i64 (s 0), .int .i64 (s 1), .int .i64 (s 2), .int .i64 0, .int .i64 0] ∧ 0 ≤ s 0 ∧ 0 ≤ s 1 ∧ 0 ≤ s 2) ∨ (k = 4 ∧ cs = #[.int .i64 (c : Int), .int .i64 (s 0), .int .i64 (s 1), .int .i64 (s 2), .int .i64 (s 3), .int .i64 0] ∧ 0 ≤ s 0 ∧ 0 ≤ s 1 ∧ 0 ≤ s 2 ∧ 0 ≤ s 3) ∨ (k = 5 ∧ cs = #[.int .i64 (c : Int), .int .i64 (s 0), .int .i64 (s 1), .int .i64 (s 2), .int .i64 (s 3), .int .i64 (s 4)] ∧ 0 ≤ s 0 ∧ 0 ≤ s 1 ∧ 0 ≤ s 2 ∧ 0 ≤ s 3 ∧ 0 ≤ s 4))) (fun i _ => 5 - (intOf i).toNat)
  case atStart => exact ⟨0, _, by omega, rfl, XT3.out, XR3.out, B3.out, Or.inl ⟨rfl, rfl⟩⟩
  case round =>
    obtain ⟨k, cs, hk, rfl, hxt, hxr, hb, hcs⟩ := hrel
    have XT := hide hxt
    have XR := hide hxr
    have BM := hide hb
    clear hxt hxr hb XT3 XR3 B3
    obtain ⟨W0, rfl⟩ : ∃ W0 : World, W0 = wr := ⟨_, rfl⟩
    rcases hcs with ⟨rfl, rfl⟩ | ⟨rfl, rfl, p0⟩ | ⟨rfl, rfl, p0, p1⟩ | ⟨rfl, rfl, p0, p1, p2⟩ | ⟨rfl, rfl, p0, p1, p2, p3⟩ | ⟨rfl, rfl, p0, p1, p2, p3, p4⟩
    · as_aux_lemma =>
      go_wp2_with fail
      refine (HN1.out _).mono ?_
      rintro e w4 ⟨rfl, rfl⟩
      have ck : W0.cell? ⟨tb, 1, none⟩ = some (.int .i64 0) := cell_of_block XT.out 1
      have fk : W0.frozen? ⟨tb, 1, none⟩ = false := frozen_of_block XT.out 1
      go_upto_region 9 with (fail)
      have XT5 := hide (show (W0.setCell ⟨tb, 1, none⟩ (.int .i64 (s 0))).heap[tb]? = some (.cells #[.int .i64 (c : Int), .int .i64 (s 0), .int .i64 0, .int .i64 0, .int .i64 0, .int .i64 0] 29 (0, 0)) from block_setCell XT.out 1 (.int .i64 (s 0)))
      have XR5 := hide ((block_setCell_other HNE.out.symm 1 (.int .i64 (s 0))).trans XR.out)
      have B5 := hide (BM.out.setCell (p := ⟨tb, 1, none⟩) HTB.out (.int .i64 (s 0)))
      clear ck fk XT XR BM
      generalize W0.setCell ⟨tb, 1, none⟩ (.int .i64 (s 0)) = w5 at *
      have ck : w5.cell? ⟨tb, 1, none⟩ = some (.int .i64 (s 0)) := cell_of_block XT5.out 1
      clear hx0 hx1 hx2 hx3 hx4 hy0 hy1 hy2 hy3 hy4
      by_cases hlt : s 0 < 0
      · have g : decide (s 0 < 0) = true := decide_eq_true hlt
        have HBAD := hide (show totB (totR l) = false from by
          rw [HB.out, show decide (0 ≤ s 0) = false from decide_eq_false (by omega)]
          simp)
        clear hlt
        go_wp2_with (first | (refine rw_load rfl 29 (.tmp 4) rfl tb rfl 29 #[.int .i64 (c : Int), .int .i64 (s 0), .int .i64 0, .int .i64 0, .int .i64 0, .int .i64 0] (0, 0) _ XT5.out Try.underlying29 rfl (by kernel_rfl) ?_) | (refine rw_store rfl 29 (.tmp 2) (.tmp 37) rfl rb rfl #[.int .i64 (c : Int), .int .i64 (s 0), .int .i64 0, .int .i64 0, .int .i64 0, .int .i64 0] rfl _ XR5.out (by kernel_rfl) rfl (by simp [Value.oneCell']) ?_))
        have XF := hide (setRow_same (cs := (#[.int .i64 (c : Int), .int .i64 (s 0), .int .i64 0, .int .i64 0, .int .i64 0, .int .i64 0] : Array Value)) XR5.out)
        have BF := hide (setRow_below B5.out HRB.out B5.out.size (#[.int .i64 (c : Int), .int .i64 (s 0), .int .i64 0, .int .i64 0, .int .i64 0, .int .i64 0] : Array Value))
        (try simp only [Exit.inBlock, Exit.then])
        refine bodyPost_ret (res_ct (P := Try.prog) rfl _ _ rb 29 #[.int .i64 (c : Int), .int .i64 (s 0), .int .i64 0, .int .i64 0, .int .i64 0, .int .i64 0] (0, 0) _ rfl XF.out Try.underlying29 rfl (by kernel_rfl)) rfl ?_
        exact ⟨.inr ⟨HBAD.out, ⟨(c : Int), s 0, 0, 0, 0, 0⟩, rfl⟩, BF.out⟩
      · have g : decide (s 0 < 0) = false := decide_eq_false hlt
        have HP := hide (show 0 ≤ s 0 from by omega)
        clear hlt
        go_wp2_with fail
        go_roundw
        case rel => exact ⟨1, _, by omega, by go_num, XT5.out, XR5.out, B5.out, Or.inr (Or.inl ⟨rfl, rfl, HP.out⟩)⟩
        case measure => simp [intOf]
    · as_aux_lemma =>
      go_wp2_with fail
      refine (HN2.out _).mono ?_
      rintro e w4 ⟨rfl, rfl⟩
      have ck : W0.cell? ⟨tb, 2, none⟩ = some (.int .i64 0) := cell_of_block XT.out 2
      have fk : W0.frozen? ⟨tb, 2, none⟩ = false := frozen_of_block XT.out 2
      go_upto_region 9 with (fail)
      have XT5 := hide (show (W0.setCell ⟨tb, 2, none⟩ (.int .i64 (s 1))).heap[tb]? = some (.cells #[.int .i64 (c : Int), .int .i64 (s 0), .int .i64 (s 1), .int .i64 0, .int .i64 0, .int .i64 0] 29 (0, 0)) from block_setCell XT.out 2 (.int .i64 (s 1)))
      have XR5 := hide ((block_setCell_other HNE.out.symm 2 (.int .i64 (s 1))).trans XR.out)
      have B5 := hide (BM.out.setCell (p := ⟨tb, 2, none⟩) HTB.out (.int .i64 (s 1)))
      clear ck fk XT XR BM
      generalize W0.setCell ⟨tb, 2, none⟩ (.int .i64 (s 1)) = w5 at *
      have ck : w5.cell? ⟨tb, 2, none⟩ = some (.int .i64 (s 1)) := cell_of_block XT5.out 2
      clear hx0 hx1 hx2 hx3 hx4 hy0 hy1 hy2 hy3 hy4
      by_cases hlt : s 1 < 0
      · have g : decide (s 1 < 0) = true := decide_eq_true hlt
        have HBAD := hide (show totB (totR l) = false from by
          rw [HB.out, show decide (0 ≤ s 1) = false from decide_eq_false (by omega)]
          simp)
        clear hlt
        go_wp2_with (first | (refine rw_load rfl 29 (.tmp 4) rfl tb rfl 29 #[.int .i64 (c : Int), .int .i64 (s 0), .int .i64 (s 1), .int .i64 0, .int .i64 0, .int .i64 0] (0, 0) _ XT5.out Try.underlying29 rfl (by kernel_rfl) ?_) | (refine rw_store rfl 29 (.tmp 2) (.tmp 37) rfl rb rfl #[.int .i64 (c : Int), .int .i64 (s 0), .int .i64 (s 1), .int .i64 0, .int .i64 0, .int .i64 0] rfl _ XR5.out (by kernel_rfl) rfl (by simp [Value.oneCell']) ?_))
        have XF := hide (setRow_same (cs := (#[.int .i64 (c : Int), .int .i64 (s 0), .int .i64 (s 1), .int .i64 0, .int .i64 0, .int .i64 0] : Array Value)) XR5.out)
        have BF := hide (setRow_below B5.out HRB.out B5.out.size (#[.int .i64 (c : Int), .int .i64 (s 0), .int .i64 (s 1), .int .i64 0, .int .i64 0, .int .i64 0] : Array Value))
        (try simp only [Exit.inBlock, Exit.then])
        refine bodyPost_ret (res_ct (P := Try.prog) rfl _ _ rb 29 #[.int .i64 (c : Int), .int .i64 (s 0), .int .i64 (s 1), .int .i64 0, .int .i64 0, .int .i64 0] (0, 0) _ rfl XF.out Try.underlying29 rfl (by kernel_rfl)) rfl ?_
        exact ⟨.inr ⟨HBAD.out, ⟨(c : Int), s 0, s 1, 0, 0, 0⟩, rfl⟩, BF.out⟩
      · have g : decide (s 1 < 0) = false := decide_eq_false hlt
        have HP := hide (show 0 ≤ s 1 from by omega)
        clear hlt
        go_wp2_with fail
        go_roundw
        case rel => exact ⟨2, _, by omega, by go_num, XT5.out, XR5.out, B5.out, Or.inr (Or.inr (Or.inl ⟨rfl, rfl, p0, HP.out⟩))⟩
        case measure => simp [intOf]
    · as_aux_lemma =>
      go_wp2_with fail
      refine (HN3.out _).mono ?_
      rintro e w4 ⟨rfl, rfl⟩
      have ck : W0.cell? ⟨tb, 3, none⟩ = some (.int .i64 0) := cell_of_block XT.out 3
      have fk : W0.frozen? ⟨tb, 3, none⟩ = false := frozen_of_block XT.out 3
      go_upto_region 9 with (fail)
      have XT5 := hide (show (W0.setCell ⟨tb, 3, none⟩ (.int .i64 (s 2))).heap[tb]? = some (.cells #[.int .i64 (c : Int), .int .i64 (s 0), .int .i64 (s 1), .int .i64 (s 2), .int .i64 0, .int .i64 0] 29 (0, 0)) from block_setCell XT.out 3 (.int .i64 (s 2)))
      have XR5 := hide ((block_setCell_other HNE.out.symm 3 (.int .i64 (s 2))).trans XR.out)
      have B5 := hide (BM.out.setCell (p := ⟨tb, 3, none⟩) HTB.out (.int .i64 (s 2)))
      clear ck fk XT XR BM
      generalize W0.setCell ⟨tb, 3, none⟩ (.int .i64 (s 2)) = w5 at *
      have ck : w5.cell? ⟨tb, 3, none⟩ = some (.int .i64 (s 2)) := cell_of_block XT5.out 3
      clear hx0 hx1 hx2 hx3 hx4 hy0 hy1 hy2 hy3 hy4
      by_cases hlt : s 2 < 0
      · have g : decide (s 2 < 0) = true := decide_eq_true hlt
        have HBAD := hide (show totB (totR l) = false from by
          rw [HB.out, show decide (0 ≤ s 2) = false from decide_eq_false (by omega)]
          simp)
        clear hlt
        go_wp2_with (first | (refine rw_load rfl 29 (.tmp 4) rfl tb rfl 29 #[.int .i64 (c : Int), .int .i64 (s 0), .int .i64 (s 1), .int .i64 (s 2), .int .i64 0, .int .i64 0] (0, 0) _ XT5.out Try.underlying29 rfl (by kernel_rfl) ?_) | (refine rw_store rfl 29 (.tmp 2) (.tmp 37) rfl rb rfl #[.int .i64 (c : Int), .int .i64 (s 0), .int .i64 (s 1), .int .i64 (s 2), .int .i64 0, .int .i64 0] rfl _ XR5.out (by kernel_rfl) rfl (by simp [Value.oneCell']) ?_))
        have XF := hide (setRow_same (cs := (#[.int .i64 (c : Int), .int .i64 (s 0), .int .i64 (s 1), .int .i64 (s 2), .int .i64 0, .int .i64 0] : Array Value)) XR5.out)
        have BF := hide (setRow_below B5.out HRB.out B5.out.size (#[.int .i64 (c : Int), .int .i64 (s 0), .int .i64 (s 1), .int .i64 (s 2), .int .i64 0, .int .i64 0] : Array Value))
        (try simp only [Exit.inBlock, Exit.then])
        refine bodyPost_ret (res_ct (P := Try.prog) rfl _ _ rb 29 #[.int .i64 (c : Int), .int .i64 (s 0), .int .i64 (s 1), .int .i64 (s 2), .int .i64 0, .int .i64 0] (0, 0) _ rfl XF.out Try.underlying29 rfl (by kernel_rfl)) rfl ?_
        exact ⟨.inr ⟨HBAD.out, ⟨(c : Int), s 0, s 1, s 2, 0, 0⟩, rfl⟩, BF.out⟩
      · have g : decide (s 2 < 0) = false := decide_eq_false hlt
        have HP := hide (show 0 ≤ s 2 from by omega)
        clear hlt
        go_wp2_with fail
        go_roundw
        case rel => exact ⟨3, _, by omega, by go_num, XT5.out, XR5.out, B5.out, Or.inr (Or.inr (Or.inr (Or.inl ⟨rfl, rfl, p0, p1, HP.out⟩)))⟩
        case measure => simp [intOf]
    · as_aux_lemma =>
      go_wp2_with fail
      refine (HN4.out _).mono ?_
      rintro e w4 ⟨rfl, rfl⟩
      have ck : W0.cell? ⟨tb, 4, none⟩ = some (.int .i64 0) := cell_of_block XT.out 4
      have fk : W0.frozen? ⟨tb, 4, none⟩ = false := frozen_of_block XT.out 4
      go_upto_region 9 with (fail)
      have XT5 := hide (show (W0.setCell ⟨tb, 4, none⟩ (.int .i64 (s 3))).heap[tb]? = some (.cells #[.int .i64 (c : Int), .int .i64 (s 0), .int .i64 (s 1), .int .i64 (s 2), .int .i64 (s 3), .int .i64 0] 29 (0, 0)) from block_setCell XT.out 4 (.int .i64 (s 3)))
      have XR5 := hide ((block_setCell_other HNE.out.symm 4 (.int .i64 (s 3))).trans XR.out)
      have B5 := hide (BM.out.setCell (p := ⟨tb, 4, none⟩) HTB.out (.int .i64 (s 3)))
      clear ck fk XT XR BM
      generalize W0.setCell ⟨tb, 4, none⟩ (.int .i64 (s 3)) = w5 at *
      have ck : w5.cell? ⟨tb, 4, none⟩ = some (.int .i64 (s 3)) := cell_of_block XT5.out 4
      clear hx0 hx1 hx2 hx3 hx4 hy0 hy1 hy2 hy3 hy4
      by_cases hlt : s 3 < 0
      · have g : decide (s 3 < 0) = true := decide_eq_true hlt
        have HBAD := hide (show totB (totR l) = false from by
          rw [HB.out, show decide (0 ≤ s 3) = false from decide_eq_false (by omega)]
          simp)
        clear hlt
        go_wp2_with (first | (refine rw_load rfl 29 (.tmp 4) rfl tb rfl 29 #[.int .i64 (c : Int), .int .i64 (s 0), .int .i64 (s 1), .int .i64 (s 2), .int .i64 (s 3), .int .i64 0] (0, 0) _ XT5.out Try.underlying29 rfl (by kernel_rfl) ?_) | (refine rw_store rfl 29 (.tmp 2) (.tmp 37) rfl rb rfl #[.int .i64 (c : Int), .int .i64 (s 0), .int .i64 (s 1), .int .i64 (s 2), .int .i64 (s 3), .int .i64 0] rfl _ XR5.out (by kernel_rfl) rfl (by simp [Value.oneCell']) ?_))
        have XF := hide (setRow_same (cs := (#[.int .i64 (c : Int), .int .i64 (s 0), .int .i64 (s 1), .int .i64 (s 2), .int .i64 (s 3), .int .i64 0] : Array Value)) XR5.out)
        have BF := hide (setRow_below B5.out HRB.out B5.out.size (#[.int .i64 (c : Int), .int .i64 (s 0), .int .i64 (s 1), .int .i64 (s 2), .int .i64 (s 3), .int .i64 0] : Array Value))
        (try simp only [Exit.inBlock, Exit.then])
        refine bodyPost_ret (res_ct (P := Try.prog) rfl _ _ rb 29 #[.int .i64 (c : Int), .int .i64 (s 0), .int .i64 (s 1), .int .i64 (s 2), .int .i64 (s 3), .int .i64 0] (0, 0) _ rfl XF.out Try.underlying29 rfl (by kernel_rfl)) rfl ?_
        exact ⟨.inr ⟨HBAD.out, ⟨(c : Int), s 0, s 1, s 2, s 3, 0⟩, rfl⟩, BF.out⟩
      · have g : decide (s 3 < 0) = false := decide_eq_false hlt
        have HP := hide (show 0 ≤ s 3 from by omega)
        clear hlt
        go_wp2_with fail
        go_roundw
        case rel => exact ⟨4, _, by omega, by go_num, XT5.out, XR5.out, B5.out, Or.inr (Or.inr (Or.inr (Or.inr (Or.inl ⟨rfl, rfl, p0, p1, p2, HP.out⟩))))⟩
        case measure => simp [intOf]
    · as_aux_lemma =>
      go_wp2_with fail
      refine (HN5.out _).mono ?_
      rintro e w4 ⟨rfl, rfl⟩
      have ck : W0.cell? ⟨tb, 5, none⟩ = some (.int .i64 0) := cell_of_block XT.out 5
      have fk : W0.frozen? ⟨tb, 5, none⟩ = false := frozen_of_block XT.out 5
      go_upto_region 9 with (fail)
      have XT5 := hide (show (W0.setCell ⟨tb, 5, none⟩ (.int .i64 (s 4))).heap[tb]? = some (.cells #[.int .i64 (c : Int), .int .i64 (s 0), .int .i64 (s 1), .int .i64 (s 2), .int .i64 (s 3), .int .i64 (s 4)] 29 (0, 0)) from block_setCell XT.out 5 (.int .i64 (s 4)))
      have XR5 := hide ((block_setCell_other HNE.out.symm 5 (.int .i64 (s 4))).trans XR.out)
      have B5 := hide (BM.out.setCell (p := ⟨tb, 5, none⟩) HTB.out (.int .i64 (s 4)))
      clear ck fk XT XR BM
      generalize W0.setCell ⟨tb, 5, none⟩ (.int .i64 (s 4)) = w5 at *
      have ck : w5.cell? ⟨tb, 5, none⟩ = some (.int .i64 (s 4)) := cell_of_block XT5.out 5
      clear hx0 hx1 hx2 hx3 hx4 hy0 hy1 hy2 hy3 hy4
      by_cases hlt : s 4 < 0
      · have g : decide (s 4 < 0) = true := decide_eq_true hlt
        have HBAD := hide (show totB (totR l) = false from by
          rw [HB.out, show decide (0 ≤ s 4) = false from decide_eq_false (by omega)]
          simp)
        clear hlt
        go_wp2_with (first | (refine rw_load rfl 29 (.tmp 4) rfl tb rfl 29 #[.int .i64 (c : Int), .int .i64 (s 0), .int .i64 (s 1), .int .i64 (s 2), .int .i64 (s 3), .int .i64 (s 4)] (0, 0) _ XT5.out Try.underlying29 rfl (by kernel_rfl) ?_) | (refine rw_store rfl 29 (.tmp 2) (.tmp 37) rfl rb rfl #[.int .i64 (c : Int), .int .i64 (s 0), .int .i64 (s 1), .int .i64 (s 2), .int .i64 (s 3), .int .i64 (s 4)] rfl _ XR5.out (by kernel_rfl) rfl (by simp [Value.oneCell']) ?_))
        have XF := hide (setRow_same (cs := (#[.int .i64 (c : Int), .int .i64 (s 0), .int .i64 (s 1), .int .i64 (s 2), .int .i64 (s 3), .int .i64 (s 4)] : Array Value)) XR5.out)
        have BF := hide (setRow_below B5.out HRB.out B5.out.size (#[.int .i64 (c : Int), .int .i64 (s 0), .int .i64 (s 1), .int .i64 (s 2), .int .i64 (s 3), .int .i64 (s 4)] : Array Value))
        (try simp only [Exit.inBlock, Exit.then])
        refine bodyPost_ret (res_ct (P := Try.prog) rfl _ _ rb 29 #[.int .i64 (c : Int), .int .i64 (s 0), .int .i64 (s 1), .int .i64 (s 2), .int .i64 (s 3), .int .i64 (s 4)] (0, 0) _ rfl XF.out Try.underlying29 rfl (by kernel_rfl)) rfl ?_
        exact ⟨.inr ⟨HBAD.out, ⟨(c : Int), s 0, s 1, s 2, s 3, s 4⟩, rfl⟩, BF.out⟩
      · have g : decide (s 4 < 0) = false := decide_eq_false hlt
        have HP := hide (show 0 ≤ s 4 from by omega)
        clear hlt
        go_wp2_with fail
        go_roundw
        case rel => exact ⟨5, _, by omega, by go_num, XT5.out, XR5.out, B5.out, Or.inr (Or.inr (Or.inr (Or.inr (Or.inr (⟨rfl, rfl, p0, p1, p2, p3, HP.out⟩)))))⟩
        case measure => simp [intOf]
    · have HGO := hide (show totB (totR l) = true from by rw [HB.out, decide_eq_true p0, decide_eq_true p1, decide_eq_true p2, decide_eq_true p3, decide_eq_true p4]; rfl)
      clear p0 p1 p2 p3 p4 hx0 hx1 hx2 hx3 hx4 hy0 hy1 hy2 hy3 hy4
      go_wp2_with (first | (refine rw_load rfl 29 (.tmp 4) rfl tb rfl 29 #[.int .i64 (c : Int), .int .i64 (s 0), .int .i64 (s 1), .int .i64 (s 2), .int .i64 (s 3), .int .i64 (s 4)] (0, 0) _ XT.out Try.underlying29 rfl (by kernel_rfl) ?_) | (refine rw_store rfl 29 (.tmp 2) (.tmp 38) rfl rb rfl #[.int .i64 (c : Int), .int .i64 (s 0), .int .i64 (s 1), .int .i64 (s 2), .int .i64 (s 3), .int .i64 (s 4)] rfl _ XR.out (by kernel_rfl) rfl (by simp [Value.oneCell']) ?_))
      have XF := hide (setRow_same (cs := (#[.int .i64 (c : Int), .int .i64 (s 0), .int .i64 (s 1), .int .i64 (s 2), .int .i64 (s 3), .int .i64 (s 4)] : Array Value)) XR.out)
      have BF := hide (setRow_below BM.out HRB.out BM.out.size (#[.int .i64 (c : Int), .int .i64 (s 0), .int .i64 (s 1), .int .i64 (s 2), .int .i64 (s 3), .int .i64 (s 4)] : Array Value))
      (try simp only [Exit.inBlock, Exit.then])
      refine bodyPost_ret (res_ct (P := Try.prog) rfl _ _ rb 29 #[.int .i64 (c : Int), .int .i64 (s 0), .int .i64 (s 1), .int .i64 (s 2), .int .i64 (s 3), .int .i64 (s 4)] (0, 0) _ rfl XF.out Try.underlying29 rfl (by kernel_rfl)) rfl ?_
      refine ⟨.inl ⟨HGO.out, ?_⟩, BF.out⟩
      rw [HV.out]
      rfl
end Go.Proofs.Ytfdgfeohmkdnoaa

/-
  Layer 26: the document's Read.
-/
--import Derived.Test.Zdbg
namespace Go.Proofs.Ytfdgfeohmkdnoaa
set_option linter.unusedSimpArgs false
set_option linter.unusedVariables false
open Go.RowKit Go.WideShapes Go.ChangeShapes Go.ChangeAt Go.Deep
def shNone : ShM := ⟨0, 0, false, tot0, []⟩
def RShRdIs (kp : Int) (t : List UInt8) (w : World) (e : Ending) (w' : World) : Prop :=
  ((shR kp t = none ∧ e = .returned (.tuple #[rsV shNone tot0 none 0, .int .i64 0, .int .i64 4])) ∨ ∃ (M : ShM) (rest : List UInt8) (nw : TotM) (a : Option Addr) (cp : Nat), shR kp t = some (M, rest) ∧ e = .returned (.tuple #[rsV M nw a cp, .int .i64 ((t.length : Int) - (rest.length : Int)), .int .i64 0]) ∧ RsIs w' M nw a cp) ∧ Below w.heap.size w w'
theorem rone_at (t : List UInt8) (j : Nat) (h : 44 ≤ (t.drop j).length) (W : World) :
    Calls Try.prog 44 #[.string ((bs t).extract j (j + 44))] W fun e w' => ((totB (totR (t.drop j)) = true ∧ e = .returned (.tuple #[totV (totR (t.drop j)), .bool true])) ∨ (totB (totR (t.drop j)) = false ∧ ∃ x, e = .returned (.tuple #[totV x, .bool false]))) ∧ Below W.heap.size W w' := by
  have h1 : (bs t).extract j (j + 44) = bs ((t.drop j).take 44) := by rw [bs_ext, show j + 44 - j = 44 by omega]
  rw [h1]
  have h2 := rone_any ((t.drop j).take 44) (by rw [List.length_take]; omega) W
  unfold ROneIs at h2
  rw [totR_take] at h2
  exact h2
theorem rd_short_none (kp : Int) (t : List UInt8) (T : ByteArray) (m x o n : Nat) (hsz : T.size = t.length) (h7 : 7 ≤ t.length) (hm : n + o = m) (hy : hdOk kp x o n → shR kp t = (rdT (n + o) (t.drop 7) []).map fun z => (mkSh kp x o n z.1, z.2)) (hno : ¬ hdOk kp x o n → shR kp t = none) (h : T.size < 7 + 44 * m) : shR kp t = none := by
  by_cases hh : hdOk kp x o n
  · rw [hy hh, rdT_short (n + o) (t.drop 7) [] (by rw [List.length_drop, hm]; omega)]
    rfl
  · exact hno hh
theorem hd_no0 {kp : Int} {x o n : Nat} (h : (x : Int) < 1) : ¬ hdOk kp x o n := fun hh => by obtain ⟨z1, z2, z3, z4, z5⟩ := hh; omega
theorem hd_no1 {kp : Int} {x o n : Nat} (h : (x : Int) > 4294967296) : ¬ hdOk kp x o n := fun hh => by obtain ⟨z1, z2, z3, z4, z5⟩ := hh; omega
theorem hd_no2 {kp : Int} {x o n : Nat} (h : (n : Int) > kp) : ¬ hdOk kp x o n := fun hh => by obtain ⟨z1, z2, z3, z4, z5⟩ := hh; omega
theorem hd_no3 {kp : Int} {x o n m : Nat} (h : (m : Int) > (x : Int) - 1) (hm : n + o = m) : ¬ hdOk kp x o n := fun hh => by obtain ⟨z1, z2, z3, z4, z5⟩ := hh; omega
theorem hd_no4 {kp : Int} {x o n : Nat} (h : 1 < o) : ¬ hdOk kp x o n := fun hh => by obtain ⟨z1, z2, z3, z4, z5⟩ := hh; omega
theorem hd_yes {kp : Int} {x o n m : Nat} (hm : n + o = m) (ho : o ≤ 1) (q0 : ¬ (x : Int) < 1) (q1 : ¬ (x : Int) > 4294967296) (q2 : ¬ (n : Int) > kp) (q3 : ¬ (m : Int) > (x : Int) - 1) : hdOk kp x o n := ⟨by omega, by omega, by omega, by omega, by omega⟩
theorem hd_len {m T : Nat} (h : ¬ (T : Int) < 7 + 44 * (m : Int)) : 7 + 44 * m ≤ T := by omega
theorem hd_lt4 {m T : Nat} (h : (T : Int) < 7 + 44 * (m : Int)) : T < 7 + 44 * m := by omega
theorem owns_mono0 {w : World} {B B' e m n : Nat} {v : Value} {xs : List Value} (h : w.ownsRow B e m v n xs) (hB : B' ≤ B) : w.ownsRow B' e m v n xs := by
  refine ⟨h.1, ?_⟩
  rcases h.2 with h3 | ⟨g, cap', cur, hv, hb, h4⟩
  · exact .inl h3
  · exact .inr ⟨g, cap', cur, hv, Nat.le_trans hB hb, h4⟩
theorem sub_next {m k : Nat} (h : k < m) : m - k = (m - (k + 1)) + 1 := by omega
theorem rd_nums (x n o m : Nat) (hx : x < 1099511627776) (hn : n < 256) (ho : o ≤ 1) (hm : n + o = m) : IntKind.i64.wrap (n : Int) = (n : Int) ∧ wrap64 (n : Int) = (n : Int) ∧ IntKind.i64.wrap (o : Int) = (o : Int) ∧ wrap64 (o : Int) = (o : Int) ∧ IntKind.i64.wrap ((n : Int) + (o : Int)) = (m : Int) ∧ wrap64 ((n : Int) + (o : Int)) = (m : Int) ∧ IntKind.i64.wrap ((x : Int) - 1) = (x : Int) - 1 ∧ wrap64 ((x : Int) - 1) = (x : Int) - 1 ∧ m < 600 ∧ IntKind.i64.wrap (44 * (m : Int)) = 44 * (m : Int) ∧ wrap64 (44 * (m : Int)) = 44 * (m : Int) ∧ IntKind.i64.wrap (7 + 44 * (m : Int)) = 7 + 44 * (m : Int) ∧ wrap64 (7 + 44 * (m : Int)) = 7 + 44 * (m : Int) := by
  simp only [IntKind.wrap_i64]
  unfold wrap64
  refine ⟨?_, ?_, ?_, ?_, ?_, ?_, ?_, ?_, ?_, ?_, ?_, ?_, ?_⟩ <;> omega
theorem rd_ats (m k T : Nat) (hm : m < 600) (hk : k < m) (hT : 7 + 44 * m ≤ T) : IntKind.i64.wrap (44 * (k : Int)) = 44 * (k : Int) ∧ wrap64 (44 * (k : Int)) = 44 * (k : Int) ∧ IntKind.i64.wrap (7 + 44 * (k : Int)) = ((7 + 44 * k : Nat) : Int) ∧ wrap64 (7 + 44 * (k : Int)) = ((7 + 44 * k : Nat) : Int) ∧ IntKind.i64.wrap (51 + 44 * (k : Int)) = ((7 + 44 * k + 44 : Nat) : Int) ∧ wrap64 (51 + 44 * (k : Int)) = ((7 + 44 * k + 44 : Nat) : Int) ∧ IntKind.i64.wrap ((k : Int) + 1) = (k : Int) + 1 ∧ ((7 + 44 * k : Nat) : Int) ≤ ((7 + 44 * k + 44 : Nat) : Int) ∧ ((7 + 44 * k + 44 : Nat) : Int) ≤ (T : Int) ∧ 0 ≤ ((7 + 44 * k : Nat) : Int) := by
  simp only [IntKind.wrap_i64]
  unfold wrap64
  refine ⟨?_, ?_, ?_, ?_, ?_, ?_, ?_, ?_, ?_, ?_⟩ <;> omega
set_option maxRecDepth 100000 in
theorem rshread_arg (kp : Int) (hkp : ¬ (1 ≤ kp ∧ kp ≤ 64)) (t : ByteArray) (w : World) :
    Calls Try.prog 25 #[.string t, .int .i64 kp] w fun e w' => e = .returned (.tuple #[rsV shNone tot0 none 0, .int .i64 0, .int .i64 2]) ∧ Below w.heap.size w w' := by
  go_enter Try.func25, Try.ntmps25
  go_upto_region 1 with (fail)
  have hal := (Below.refl w.heap.size w).alloc (Nat.le_refl _) (.cells #[.int .i64 0, .int .i64 0, .bool false, .int .i64 0, .int .i64 0, .int .i64 0, .int .i64 0, .int .i64 0, .int .i64 0, .slice none 0 0] 32)
  have XR1 := hide (heap_new w (.cells #[.int .i64 0, .int .i64 0, .bool false, .int .i64 0, .int .i64 0, .int .i64 0, .int .i64 0, .int .i64 0, .int .i64 0, .slice none 0 0] 32))
  have B1 := hide hal
  clear hal
  generalize w.alloc (.cells #[.int .i64 0, .int .i64 0, .bool false, .int .i64 0, .int .i64 0, .int .i64 0, .int .i64 0, .int .i64 0, .int .i64 0, .slice none 0 0] 32) = w1 at *
  obtain ⟨rb, hrb⟩ : ∃ k, w.heap.size = k := ⟨_, rfl⟩
  have HRB := hide (show w.heap.size ≤ rb from by omega)
  rw [hrb] at XR1 ⊢
  clear hrb
  go_upto_region 2 with (refine rw_store rfl 32 (.tmp 7) (.tmp 15) rfl w1.heap.size rfl #[.int .i64 0, .int .i64 0, .bool false, .int .i64 0, .int .i64 0, .int .i64 0, .int .i64 0, .int .i64 0, .int .i64 0, .slice none 0 0] rfl _ (heap_new w1 _) (by kernel_rfl) rfl (by simp [Value.oneCell']) ?_)
  have XN2 := hide (setRow_same (cs := (#[.int .i64 0, .int .i64 0, .bool false, .int .i64 0, .int .i64 0, .int .i64 0, .int .i64 0, .int .i64 0, .int .i64 0, .slice none 0 0] : Array Value)) (heap_new w1 (.cells #[.int .i64 0, .int .i64 0, .bool false, .int .i64 0, .int .i64 0, .int .i64 0, .int .i64 0, .int .i64 0, .int .i64 0, .slice none 0 0] 32)))
  have hal := (Below.refl w1.heap.size w1).alloc (Nat.le_refl _) (.cells #[.int .i64 0, .int .i64 0, .bool false, .int .i64 0, .int .i64 0, .int .i64 0, .int .i64 0, .int .i64 0, .int .i64 0, .slice none 0 0] 32)
  have HNR := hide (show w1.heap.size ≠ rb from by have := heap_lt XR1.out; omega)
  have XR2 := hide ((setRow_diff HNR.out (cs := (#[.int .i64 0, .int .i64 0, .bool false, .int .i64 0, .int .i64 0, .int .i64 0, .int .i64 0, .int .i64 0, .int .i64 0, .slice none 0 0] : Array Value))).trans ((hal.block _ (heap_lt XR1.out)).trans XR1.out))
  have B2 := hide (setRow_below (B1.out.trans (hal.mono B1.out.size)) B1.out.size (B1.out.trans (hal.mono B1.out.size)).size (#[.int .i64 0, .int .i64 0, .bool false, .int .i64 0, .int .i64 0, .int .i64 0, .int .i64 0, .int .i64 0, .int .i64 0, .slice none 0 0] : Array Value))
  clear hal
  generalize (w1.alloc (.cells #[.int .i64 0, .int .i64 0, .bool false, .int .i64 0, .int .i64 0, .int .i64 0, .int .i64 0, .int .i64 0, .int .i64 0, .slice none 0 0] 32)).setRow w1.heap.size (#[.int .i64 0, .int .i64 0, .bool false, .int .i64 0, .int .i64 0, .int .i64 0, .int .i64 0, .int .i64 0, .int .i64 0, .slice none 0 0] : Array Value) = w2 at *
  generalize w1.heap.size = nb at *
  by_cases h1 : kp < 1
  · have g1 : decide (kp < 1) = true := decide_eq_true h1
    clear hkp h1
    go_wp2_with (first | (refine rw_load rfl 32 (.tmp 7) rfl nb rfl 32 _ (0, 0) _ XN2.out Try.underlying32 rfl (by kernel_rfl) ?_) | (refine rw_store rfl 32 (.tmp 4) (.tmp 22) rfl rb rfl #[.int .i64 0, .int .i64 0, .bool false, .int .i64 0, .int .i64 0, .int .i64 0, .int .i64 0, .int .i64 0, .int .i64 0, .slice none 0 0] rfl _ XR2.out (by kernel_rfl) rfl (by simp [Value.oneCell']) ?_))
    have XF := hide (setRow_same (cs := (#[.int .i64 0, .int .i64 0, .bool false, .int .i64 0, .int .i64 0, .int .i64 0, .int .i64 0, .int .i64 0, .int .i64 0, .slice none 0 0] : Array Value)) XR2.out)
    have BF := hide (setRow_below B2.out HRB.out B2.out.size (#[.int .i64 0, .int .i64 0, .bool false, .int .i64 0, .int .i64 0, .int .i64 0, .int .i64 0, .int .i64 0, .int .i64 0, .slice none 0 0] : Array Value))
    (try simp only [Exit.inBlock, Exit.then])
    refine bodyPost_ret (res_ctt (P := Try.prog) rfl _ _ rb 32 #[.int .i64 0, .int .i64 0, .bool false, .int .i64 0, .int .i64 0, .int .i64 0, .int .i64 0, .int .i64 0, .int .i64 0, .slice none 0 0] (0, 0) _ rfl XF.out Try.underlying32 rfl (by kernel_rfl)) rfl ?_
    exact ⟨rfl, BF.out⟩
  · have g1 : decide (kp < 1) = false := decide_eq_false h1
    have g2 : decide (kp > 64) = true := decide_eq_true (by omega)
    clear hkp h1
    go_wp2_with (first | (refine rw_load rfl 32 (.tmp 7) rfl nb rfl 32 _ (0, 0) _ XN2.out Try.underlying32 rfl (by kernel_rfl) ?_) | (refine rw_store rfl 32 (.tmp 4) (.tmp 22) rfl rb rfl #[.int .i64 0, .int .i64 0, .bool false, .int .i64 0, .int .i64 0, .int .i64 0, .int .i64 0, .int .i64 0, .int .i64 0, .slice none 0 0] rfl _ XR2.out (by kernel_rfl) rfl (by simp [Value.oneCell']) ?_))
    have XF := hide (setRow_same (cs := (#[.int .i64 0, .int .i64 0, .bool false, .int .i64 0, .int .i64 0, .int .i64 0, .int .i64 0, .int .i64 0, .int .i64 0, .slice none 0 0] : Array Value)) XR2.out)
    have BF := hide (setRow_below B2.out HRB.out B2.out.size (#[.int .i64 0, .int .i64 0, .bool false, .int .i64 0, .int .i64 0, .int .i64 0, .int .i64 0, .int .i64 0, .int .i64 0, .slice none 0 0] : Array Value))
    (try simp only [Exit.inBlock, Exit.then])
    refine bodyPost_ret (res_ctt (P := Try.prog) rfl _ _ rb 32 #[.int .i64 0, .int .i64 0, .bool false, .int .i64 0, .int .i64 0, .int .i64 0, .int .i64 0, .int .i64 0, .int .i64 0, .slice none 0 0] (0, 0) _ rfl XF.out Try.underlying32 rfl (by kernel_rfl)) rfl ?_
    exact ⟨rfl, BF.out⟩

set_option maxRecDepth 100000 in
set_option maxHeartbeats 8000000 in
theorem rshread_any (kp : Int) (hkp : 1 ≤ kp ∧ kp ≤ 64) (t : List UInt8) (ht : t.length ≤ 1000000) (w : World) :
    Calls Try.prog 25 #[.string (bs t), .int .i64 kp] w (RShRdIs kp t w) := by
  obtain ⟨i0, hi, hz0, hz1, hz2⟩ := info_parts (show (Try.prog.info? 29).map (fun i => (i.zero, i.size, i.bytes)) = some (some (.agg #[.int .i64 0, .int .i64 0, .int .i64 0, .int .i64 0, .int .i64 0, .int .i64 0]), 6, 48) by kernel_rfl)
  have HI := hide hi
  have HZ0 := hide hz0
  have HZ1 := hide hz1
  have HZ2 := hide hz2
  clear hi hz0 hz1 hz2
  have hsz : (bs t).size = t.length := bs_size t
  have HB := hide (fun i h => get_bs t i h)
  have HNUM := hide (fun W (h : 5 ≤ t.length) => (show Calls Try.prog 43 #[.string ((bs t).extract 0 5)] W (fun e w' => e = .returned (.int .u64 (hdN t : Int)) ∧ W = w') from by rw [bs_ext, List.drop_zero]; exact rnum_any (t.take 5) (by rw [List.length_take]; omega) W))
  have HONE := hide (fun j h W => rone_at t j h W)
  have HSZ := hide hsz
  have HKP := hide hkp
  have HX := hide (show hdN t < 1099511627776 from by
    have h1 := getN_lt (t.take 5)
    have h2 : (t.take 5).length ≤ 5 := by rw [List.length_take]; omega
    have h3 : 256 ^ (t.take 5).length ≤ 256 ^ 5 := Nat.pow_le_pow_right (by decide) h2
    unfold hdN
    omega)
  have HSHR := hide (show shR kp t = if 7 ≤ t.length ∧ hdOk kp (hdN t) (hdO t) (hdL t) then (rdT (hdL t + hdO t) (t.drop 7) []).map fun z => (mkSh kp (hdN t) (hdO t) (hdL t) z.1, z.2) else none from rfl)
  have HSOME := hide (fun M r h => (rdT_some (hdL t + hdO t) (t.drop 7) [] M r h (fun t ht => by cases ht)))
  have HSHORT := hide (fun h => rdT_short (hdL t + hdO t) (t.drop 7) [] h)
  obtain ⟨T, hT⟩ : ∃ T, bs t = T := ⟨_, rfl⟩
  rw [hT] at HB HNUM HONE HSZ hsz ⊢
  have hTs : T.size ≤ 1000000 := by omega
  have g1 : decide (kp < 1) = false := decide_eq_false (by omega)
  have g2 : decide (kp > 64) = false := decide_eq_false (by omega)
  clear hT hsz hkp
  go_enter Try.func25, Try.ntmps25
  go_upto_region 1 with (fail)
  have hal := (Below.refl w.heap.size w).alloc (Nat.le_refl _) (.cells #[.int .i64 0, .int .i64 0, .bool false, .int .i64 0, .int .i64 0, .int .i64 0, .int .i64 0, .int .i64 0, .int .i64 0, .slice none 0 0] 32)
  have XR1 := hide (heap_new w (.cells #[.int .i64 0, .int .i64 0, .bool false, .int .i64 0, .int .i64 0, .int .i64 0, .int .i64 0, .int .i64 0, .int .i64 0, .slice none 0 0] 32))
  have B1 := hide hal
  clear hal
  generalize w.alloc (.cells #[.int .i64 0, .int .i64 0, .bool false, .int .i64 0, .int .i64 0, .int .i64 0, .int .i64 0, .int .i64 0, .int .i64 0, .slice none 0 0] 32) = w1 at *
  obtain ⟨rb, hrb⟩ : ∃ k, w.heap.size = k := ⟨_, rfl⟩
  have HRB := hide (show w.heap.size ≤ rb from by omega)
  rw [hrb] at XR1 ⊢
  clear hrb
  go_upto_region 2 with (refine rw_store rfl 32 (.tmp 7) (.tmp 15) rfl w1.heap.size rfl #[.int .i64 0, .int .i64 0, .bool false, .int .i64 0, .int .i64 0, .int .i64 0, .int .i64 0, .int .i64 0, .int .i64 0, .slice none 0 0] rfl _ (heap_new w1 _) (by kernel_rfl) rfl (by simp [Value.oneCell']) ?_)
  have XN2 := hide (setRow_same (cs := (#[.int .i64 0, .int .i64 0, .bool false, .int .i64 0, .int .i64 0, .int .i64 0, .int .i64 0, .int .i64 0, .int .i64 0, .slice none 0 0] : Array Value)) (heap_new w1 (.cells #[.int .i64 0, .int .i64 0, .bool false, .int .i64 0, .int .i64 0, .int .i64 0, .int .i64 0, .int .i64 0, .int .i64 0, .slice none 0 0] 32)))
  have hal := (Below.refl w1.heap.size w1).alloc (Nat.le_refl _) (.cells #[.int .i64 0, .int .i64 0, .bool false, .int .i64 0, .int .i64 0, .int .i64 0, .int .i64 0, .int .i64 0, .int .i64 0, .slice none 0 0] 32)
  have HNR := hide (show w1.heap.size ≠ rb from by have := heap_lt XR1.out; omega)
  have XR2 := hide ((setRow_diff HNR.out (cs := (#[.int .i64 0, .int .i64 0, .bool false, .int .i64 0, .int .i64 0, .int .i64 0, .int .i64 0, .int .i64 0, .int .i64 0, .slice none 0 0] : Array Value))).trans ((hal.block _ (heap_lt XR1.out)).trans XR1.out))
  have B2 := hide (setRow_below (B1.out.trans (hal.mono B1.out.size)) B1.out.size (B1.out.trans (hal.mono B1.out.size)).size (#[.int .i64 0, .int .i64 0, .bool false, .int .i64 0, .int .i64 0, .int .i64 0, .int .i64 0, .int .i64 0, .int .i64 0, .slice none 0 0] : Array Value))
  clear hal XR1 B1
  generalize (w1.alloc (.cells #[.int .i64 0, .int .i64 0, .bool false, .int .i64 0, .int .i64 0, .int .i64 0, .int .i64 0, .int .i64 0, .int .i64 0, .slice none 0 0] 32)).setRow w1.heap.size (#[.int .i64 0, .int .i64 0, .bool false, .int .i64 0, .int .i64 0, .int .i64 0, .int .i64 0, .int .i64 0, .int .i64 0, .slice none 0 0] : Array Value) = w2 at *
  generalize w1.heap.size = nb at *
  by_cases h7 : T.size < 7
  · have g3 : decide ((T.size : Int) < 7) = true := decide_eq_true (by omega)
    have HNN := hide (show shR kp t = none from HSHR.out.trans (if_neg (fun hh => by have := HSZ.out; have := hh.1; omega)))
    clear h7
    as_aux_lemma =>
      go_wp2_with (first | (refine rw_load rfl 32 (.tmp 7) rfl nb rfl 32 _ (0, 0) _ XN2.out Try.underlying32 rfl (by kernel_rfl) ?_) | (refine rw_store rfl 32 (.tmp 4) (.tmp 31) rfl rb rfl #[.int .i64 0, .int .i64 0, .bool false, .int .i64 0, .int .i64 0, .int .i64 0, .int .i64 0, .int .i64 0, .int .i64 0, .slice none 0 0] rfl _ XR2.out (by kernel_rfl) rfl (by simp [Value.oneCell']) ?_))
      have XF := hide (setRow_same (cs := (#[.int .i64 0, .int .i64 0, .bool false, .int .i64 0, .int .i64 0, .int .i64 0, .int .i64 0, .int .i64 0, .int .i64 0, .slice none 0 0] : Array Value)) XR2.out)
      have BF := hide (setRow_below B2.out HRB.out B2.out.size (#[.int .i64 0, .int .i64 0, .bool false, .int .i64 0, .int .i64 0, .int .i64 0, .int .i64 0, .int .i64 0, .int .i64 0, .slice none 0 0] : Array Value))
      (try simp only [Exit.inBlock, Exit.then])
      refine bodyPost_ret (res_ctt (P := Try.prog) rfl _ _ rb 32 #[.int .i64 0, .int .i64 0, .bool false, .int .i64 0, .int .i64 0, .int .i64 0, .int .i64 0, .int .i64 0, .int .i64 0, .slice none 0 0] (0, 0) _ rfl XF.out Try.underlying32 rfl (by kernel_rfl)) rfl ?_
      exact ⟨.inl ⟨HNN.out, rfl⟩, BF.out⟩
  have g3 : decide ((T.size : Int) < 7) = false := decide_eq_false (by omega)
  have hb5 := HB.out 5 (by omega)
  have hb6 := HB.out 6 (by omega)
  obtain ⟨o, hoo⟩ : ∃ y, (T[5]'(by omega)).toNat = y := ⟨_, rfl⟩
  obtain ⟨n, hnn⟩ : ∃ y, (T[6]'(by omega)).toNat = y := ⟨_, rfl⟩
  have ho256 : o < 256 := hoo ▸ UInt8.toNat_lt _
  have hn256 : n < 256 := hnn ▸ UInt8.toNat_lt _
  have EO : hdO t = o := by unfold hdO; rw [← hb5]; exact hoo
  have EN : hdL t = n := by unfold hdL; rw [← hb6]; exact hnn
  rw [EO, EN] at HSHR
  rw [EO, EN] at HSOME HSHORT
  have HN5 := hide (fun W => HNUM.out W (by have := HSZ.out; omega))
  have H7 := hide (show 7 ≤ t.length from by have := HSZ.out; omega)
  generalize hdN t = x at *
  have HNO := hide (show ¬ hdOk kp x o n → shR kp t = none from fun h => HSHR.out.trans (if_neg (fun hh => h hh.2)))
  have HYES := hide (show hdOk kp x o n → shR kp t = (rdT (n + o) (t.drop 7) []).map fun z => (mkSh kp x o n z.1, z.2) from fun h => HSHR.out.trans (if_pos ⟨H7.out, h⟩))
  clear hb5 hb6 EO EN HNUM HSHR HB
  by_cases ho1 : 1 < o
  · have g4 : decide ((o : Int) > 1) = true := decide_eq_true (by omega)
    have HNN := hide (HNO.out (hd_no4 ho1))
    clear ho1
    as_aux_lemma =>
      go_wp2_with (first | (refine rw_load rfl 32 (.tmp 7) rfl nb rfl 32 _ (0, 0) _ XN2.out Try.underlying32 rfl (by kernel_rfl) ?_) | (refine rw_store rfl 32 (.tmp 4) (.tmp 31) rfl rb rfl #[.int .i64 0, .int .i64 0, .bool false, .int .i64 0, .int .i64 0, .int .i64 0, .int .i64 0, .int .i64 0, .int .i64 0, .slice none 0 0] rfl _ XR2.out (by kernel_rfl) rfl (by simp [Value.oneCell']) ?_))
      have XF := hide (setRow_same (cs := (#[.int .i64 0, .int .i64 0, .bool false, .int .i64 0, .int .i64 0, .int .i64 0, .int .i64 0, .int .i64 0, .int .i64 0, .slice none 0 0] : Array Value)) XR2.out)
      have BF := hide (setRow_below B2.out HRB.out B2.out.size (#[.int .i64 0, .int .i64 0, .bool false, .int .i64 0, .int .i64 0, .int .i64 0, .int .i64 0, .int .i64 0, .int .i64 0, .slice none 0 0] : Array Value))
      (try simp only [Exit.inBlock, Exit.then])
      refine bodyPost_ret (res_ctt (P := Try.prog) rfl _ _ rb 32 #[.int .i64 0, .int .i64 0, .bool false, .int .i64 0, .int .i64 0, .int .i64 0, .int .i64 0, .int .i64 0, .int .i64 0, .slice none 0 0] (0, 0) _ rfl XF.out Try.underlying32 rfl (by kernel_rfl)) rfl ?_
      exact ⟨.inl ⟨HNN.out, rfl⟩, BF.out⟩
  have g4 : decide ((o : Int) > 1) = false := decide_eq_false (by omega)
  go_wp2_with fail
  refine (HN5.out _).mono ?_
  rintro e w3 ⟨rfl, rfl⟩
  obtain ⟨ob, hob⟩ : ∃ b, ((o : Int) == 1) = b := ⟨_, rfl⟩
  obtain ⟨m, hm⟩ : ∃ m : Nat, n + o = m := ⟨_, rfl⟩
  have hx := HX.out
  have hx1 : IntKind.i64.wrap (x : Int) = (x : Int) := by rw [IntKind.wrap_i64]; clear hoo hnn; omega
  have hx2 : wrap64 (x : Int) = (x : Int) := by unfold wrap64; clear hoo hnn; omega
  go_upto_region 8 with (refine rw_store rfl 32 (.tmp 9) (.tmp 41) rfl w2.heap.size rfl #[.int .i64 kp, .int .i64 (x : Int), .bool ob, .int .i64 0, .int .i64 0, .int .i64 0, .int .i64 0, .int .i64 0, .int .i64 0, .slice none 0 0] rfl _ (heap_new w2 _) (by kernel_rfl) rfl (by simp [Value.oneCell']) ?_)
  have XQ5 := hide (setRow_same (cs := (#[.int .i64 kp, .int .i64 (x : Int), .bool ob, .int .i64 0, .int .i64 0, .int .i64 0, .int .i64 0, .int .i64 0, .int .i64 0, .slice none 0 0] : Array Value)) (heap_new w2 (.cells #[.int .i64 0, .int .i64 0, .bool false, .int .i64 0, .int .i64 0, .int .i64 0, .int .i64 0, .int .i64 0, .int .i64 0, .slice none 0 0] 32)))
  have hal := (Below.refl w2.heap.size w2).alloc (Nat.le_refl _) (.cells #[.int .i64 0, .int .i64 0, .bool false, .int .i64 0, .int .i64 0, .int .i64 0, .int .i64 0, .int .i64 0, .int .i64 0, .slice none 0 0] 32)
  have HNB := hide (show nb ≠ rb ∧ rb ≠ w2.heap.size ∧ nb ≠ w2.heap.size from by have h1 := heap_lt XR2.out; have h2 := heap_lt XN2.out; have := HNR.out; exact ⟨this, by omega, by omega⟩)
  have HQB := hide (show w.heap.size ≤ w2.heap.size from B2.out.size)
  have XR5 := hide ((setRow_diff HNB.out.2.1.symm (cs := (#[.int .i64 kp, .int .i64 (x : Int), .bool ob, .int .i64 0, .int .i64 0, .int .i64 0, .int .i64 0, .int .i64 0, .int .i64 0, .slice none 0 0] : Array Value))).trans ((hal.block _ (heap_lt XR2.out)).trans XR2.out))
  have XN5 := hide ((setRow_diff HNB.out.2.2.symm (cs := (#[.int .i64 kp, .int .i64 (x : Int), .bool ob, .int .i64 0, .int .i64 0, .int .i64 0, .int .i64 0, .int .i64 0, .int .i64 0, .slice none 0 0] : Array Value))).trans ((hal.block _ (heap_lt XN2.out)).trans XN2.out))
  have B5 := hide (setRow_below (B2.out.trans (hal.mono B2.out.size)) B2.out.size (B2.out.trans (hal.mono B2.out.size)).size (#[.int .i64 kp, .int .i64 (x : Int), .bool ob, .int .i64 0, .int .i64 0, .int .i64 0, .int .i64 0, .int .i64 0, .int .i64 0, .slice none 0 0] : Array Value))
  clear hal XR2 XN2 B2 hx1 hx2 HN5 HNR g1 g2 g3 g4
  generalize (w2.alloc (.cells #[.int .i64 0, .int .i64 0, .bool false, .int .i64 0, .int .i64 0, .int .i64 0, .int .i64 0, .int .i64 0, .int .i64 0, .slice none 0 0] 32)).setRow w2.heap.size (#[.int .i64 kp, .int .i64 (x : Int), .bool ob, .int .i64 0, .int .i64 0, .int .i64 0, .int .i64 0, .int .i64 0, .int .i64 0, .slice none 0 0] : Array Value) = w5 at *
  generalize w2.heap.size = qb at *
  have c1 : w5.cell? ⟨qb, 1, none⟩ = some (.int .i64 (x : Int)) := cell_of_block XQ5.out 1
  obtain ⟨hn1, hn2, ho2, ho3, hm1, hm2, hs1, hs2, hmm, ha1, ha2, ha3, ha4⟩ := rd_nums x n o m hx hn256 (by clear hoo hnn; omega) hm
  have HSH := hide (rd_short_none kp t T m x o n HSZ.out H7.out hm HYES.out HNO.out)
  go_upto_region 10 with (fail)
  by_cases q0 : (x : Int) < 1
  · have g0 : decide ((x : Int) < 1) = true := decide_eq_true q0
    have HNN := hide (HNO.out (hd_no0 q0))
    clear q0
    as_aux_lemma =>
      go_wp2_with (first | (refine rw_load rfl 32 (.tmp 7) rfl nb rfl 32 _ (0, 0) _ XN5.out Try.underlying32 rfl (by kernel_rfl) ?_) | (refine rw_store rfl 32 (.tmp 4) (.tmp 78) rfl rb rfl #[.int .i64 0, .int .i64 0, .bool false, .int .i64 0, .int .i64 0, .int .i64 0, .int .i64 0, .int .i64 0, .int .i64 0, .slice none 0 0] rfl _ XR5.out (by kernel_rfl) rfl (by simp [Value.oneCell']) ?_))
      have XF := hide (setRow_same (cs := (#[.int .i64 0, .int .i64 0, .bool false, .int .i64 0, .int .i64 0, .int .i64 0, .int .i64 0, .int .i64 0, .int .i64 0, .slice none 0 0] : Array Value)) XR5.out)
      have BF := hide (setRow_below B5.out HRB.out B5.out.size (#[.int .i64 0, .int .i64 0, .bool false, .int .i64 0, .int .i64 0, .int .i64 0, .int .i64 0, .int .i64 0, .int .i64 0, .slice none 0 0] : Array Value))
      (try simp only [Exit.inBlock, Exit.then])
      refine bodyPost_ret (res_ctt (P := Try.prog) rfl _ _ rb 32 #[.int .i64 0, .int .i64 0, .bool false, .int .i64 0, .int .i64 0, .int .i64 0, .int .i64 0, .int .i64 0, .int .i64 0, .slice none 0 0] (0, 0) _ rfl XF.out Try.underlying32 rfl (by kernel_rfl)) rfl ?_
      exact ⟨.inl ⟨HNN.out, rfl⟩, BF.out⟩
  have g0 : decide ((x : Int) < 1) = false := decide_eq_false q0
  by_cases q1 : (x : Int) > 4294967296
  · have g1 : decide ((x : Int) > 4294967296) = true := decide_eq_true q1
    have HNN := hide (HNO.out (hd_no1 q1))
    clear q0 q1
    as_aux_lemma =>
      go_wp2_with (first | (refine rw_load rfl 32 (.tmp 7) rfl nb rfl 32 _ (0, 0) _ XN5.out Try.underlying32 rfl (by kernel_rfl) ?_) | (refine rw_store rfl 32 (.tmp 4) (.tmp 78) rfl rb rfl #[.int .i64 0, .int .i64 0, .bool false, .int .i64 0, .int .i64 0, .int .i64 0, .int .i64 0, .int .i64 0, .int .i64 0, .slice none 0 0] rfl _ XR5.out (by kernel_rfl) rfl (by simp [Value.oneCell']) ?_))
      have XF := hide (setRow_same (cs := (#[.int .i64 0, .int .i64 0, .bool false, .int .i64 0, .int .i64 0, .int .i64 0, .int .i64 0, .int .i64 0, .int .i64 0, .slice none 0 0] : Array Value)) XR5.out)
      have BF := hide (setRow_below B5.out HRB.out B5.out.size (#[.int .i64 0, .int .i64 0, .bool false, .int .i64 0, .int .i64 0, .int .i64 0, .int .i64 0, .int .i64 0, .int .i64 0, .slice none 0 0] : Array Value))
      (try simp only [Exit.inBlock, Exit.then])
      refine bodyPost_ret (res_ctt (P := Try.prog) rfl _ _ rb 32 #[.int .i64 0, .int .i64 0, .bool false, .int .i64 0, .int .i64 0, .int .i64 0, .int .i64 0, .int .i64 0, .int .i64 0, .slice none 0 0] (0, 0) _ rfl XF.out Try.underlying32 rfl (by kernel_rfl)) rfl ?_
      exact ⟨.inl ⟨HNN.out, rfl⟩, BF.out⟩
  have g1 : decide ((x : Int) > 4294967296) = false := decide_eq_false q1
  by_cases q2 : (n : Int) > kp
  · have g2 : decide ((n : Int) > kp) = true := decide_eq_true q2
    have HNN := hide (HNO.out (hd_no2 q2))
    clear q0 q1 q2
    as_aux_lemma =>
      go_wp2_with (first | (refine rw_load rfl 32 (.tmp 7) rfl nb rfl 32 _ (0, 0) _ XN5.out Try.underlying32 rfl (by kernel_rfl) ?_) | (refine rw_store rfl 32 (.tmp 4) (.tmp 78) rfl rb rfl #[.int .i64 0, .int .i64 0, .bool false, .int .i64 0, .int .i64 0, .int .i64 0, .int .i64 0, .int .i64 0, .int .i64 0, .slice none 0 0] rfl _ XR5.out (by kernel_rfl) rfl (by simp [Value.oneCell']) ?_))
      have XF := hide (setRow_same (cs := (#[.int .i64 0, .int .i64 0, .bool false, .int .i64 0, .int .i64 0, .int .i64 0, .int .i64 0, .int .i64 0, .int .i64 0, .slice none 0 0] : Array Value)) XR5.out)
      have BF := hide (setRow_below B5.out HRB.out B5.out.size (#[.int .i64 0, .int .i64 0, .bool false, .int .i64 0, .int .i64 0, .int .i64 0, .int .i64 0, .int .i64 0, .int .i64 0, .slice none 0 0] : Array Value))
      (try simp only [Exit.inBlock, Exit.then])
      refine bodyPost_ret (res_ctt (P := Try.prog) rfl _ _ rb 32 #[.int .i64 0, .int .i64 0, .bool false, .int .i64 0, .int .i64 0, .int .i64 0, .int .i64 0, .int .i64 0, .int .i64 0, .slice none 0 0] (0, 0) _ rfl XF.out Try.underlying32 rfl (by kernel_rfl)) rfl ?_
      exact ⟨.inl ⟨HNN.out, rfl⟩, BF.out⟩
  have g2 : decide ((n : Int) > kp) = false := decide_eq_false q2
  by_cases q3 : (m : Int) > (x : Int) - 1
  · have g3 : decide ((m : Int) > (x : Int) - 1) = true := decide_eq_true q3
    have HNN := hide (HNO.out (hd_no3 q3 hm))
    clear q0 q1 q2 q3
    as_aux_lemma =>
      go_wp2_with (first | (refine rw_load rfl 32 (.tmp 7) rfl nb rfl 32 _ (0, 0) _ XN5.out Try.underlying32 rfl (by kernel_rfl) ?_) | (refine rw_store rfl 32 (.tmp 4) (.tmp 78) rfl rb rfl #[.int .i64 0, .int .i64 0, .bool false, .int .i64 0, .int .i64 0, .int .i64 0, .int .i64 0, .int .i64 0, .int .i64 0, .slice none 0 0] rfl _ XR5.out (by kernel_rfl) rfl (by simp [Value.oneCell']) ?_))
      have XF := hide (setRow_same (cs := (#[.int .i64 0, .int .i64 0, .bool false, .int .i64 0, .int .i64 0, .int .i64 0, .int .i64 0, .int .i64 0, .int .i64 0, .slice none 0 0] : Array Value)) XR5.out)
      have BF := hide (setRow_below B5.out HRB.out B5.out.size (#[.int .i64 0, .int .i64 0, .bool false, .int .i64 0, .int .i64 0, .int .i64 0, .int .i64 0, .int .i64 0, .int .i64 0, .slice none 0 0] : Array Value))
      (try simp only [Exit.inBlock, Exit.then])
      refine bodyPost_ret (res_ctt (P := Try.prog) rfl _ _ rb 32 #[.int .i64 0, .int .i64 0, .bool false, .int .i64 0, .int .i64 0, .int .i64 0, .int .i64 0, .int .i64 0, .int .i64 0, .slice none 0 0] (0, 0) _ rfl XF.out Try.underlying32 rfl (by kernel_rfl)) rfl ?_
      exact ⟨.inl ⟨HNN.out, rfl⟩, BF.out⟩
  have g3 : decide ((m : Int) > (x : Int) - 1) = false := decide_eq_false q3
  by_cases q4 : (T.size : Int) < 7 + 44 * (m : Int)
  · have g4 : decide ((T.size : Int) < 7 + 44 * (m : Int)) = true := decide_eq_true q4
    have HNN := hide (HSH.out (hd_lt4 q4))
    clear q0 q1 q2 q3 q4
    as_aux_lemma =>
      go_wp2_with (first | (refine rw_load rfl 32 (.tmp 7) rfl nb rfl 32 _ (0, 0) _ XN5.out Try.underlying32 rfl (by kernel_rfl) ?_) | (refine rw_store rfl 32 (.tmp 4) (.tmp 78) rfl rb rfl #[.int .i64 0, .int .i64 0, .bool false, .int .i64 0, .int .i64 0, .int .i64 0, .int .i64 0, .int .i64 0, .int .i64 0, .slice none 0 0] rfl _ XR5.out (by kernel_rfl) rfl (by simp [Value.oneCell']) ?_))
      have XF := hide (setRow_same (cs := (#[.int .i64 0, .int .i64 0, .bool false, .int .i64 0, .int .i64 0, .int .i64 0, .int .i64 0, .int .i64 0, .int .i64 0, .slice none 0 0] : Array Value)) XR5.out)
      have BF := hide (setRow_below B5.out HRB.out B5.out.size (#[.int .i64 0, .int .i64 0, .bool false, .int .i64 0, .int .i64 0, .int .i64 0, .int .i64 0, .int .i64 0, .int .i64 0, .slice none 0 0] : Array Value))
      (try simp only [Exit.inBlock, Exit.then])
      refine bodyPost_ret (res_ctt (P := Try.prog) rfl _ _ rb 32 #[.int .i64 0, .int .i64 0, .bool false, .int .i64 0, .int .i64 0, .int .i64 0, .int .i64 0, .int .i64 0, .int .i64 0, .slice none 0 0] (0, 0) _ rfl XF.out Try.underlying32 rfl (by kernel_rfl)) rfl ?_
      exact ⟨.inl ⟨HNN.out, rfl⟩, BF.out⟩
  have g4 : decide ((T.size : Int) < 7 + 44 * (m : Int)) = false := decide_eq_false q4
  have hok : hdOk kp x o n := hd_yes hm (Nat.le_of_not_lt ho1) q0 q1 q2 q3
  have HLEN := hide (show 7 + 44 * m ≤ T.size from hd_len q4)
  have HY2 := hide (HYES.out hok)
  obtain ⟨ff, hff⟩ : ∃ ff : List TotM × List UInt8 → ShM × List UInt8, ff = fun z => (mkSh kp x o n z.1, z.2) := ⟨_, rfl⟩
  rw [← hff] at HY2
  rw [hm] at HY2 HSOME
  have HFF := hide hff
  have HMK := hide (show ∀ (L1 : List TotM) (y : TotM), L1.length = n → mkSh kp x 1 n (L1 ++ [y]) = ⟨kp, x, true, y, L1⟩ from fun L1 y h => by
    unfold mkSh
    rw [if_pos rfl, ← h, List.take_append_of_le_length (Nat.le_refl _), List.take_length]
    congr 1
    simp [List.getD])
  have HM := hide hm
  have HO1 := hide (Nat.le_of_not_lt ho1)
  have HMM := hide hmm
  have HOBE := hide hob
  have HA3 := hide ha3
  have HA4 := hide ha4
  have HA1 := hide ha1
  have HA2 := hide ha2
  clear q0 q1 q2 q3 q4 hok hm hff hmm hob hx ho1 HYES HNO HSH HSHORT
  go_wp2_with fail
  clear hoo hnn g0 g1 g2 g3 g4 ha1 ha2 ha3 ha4 c1 hs1 hs2 hm1 hm2 hn1 hn2 ho2 ho3
  go_loopw [12] (fun i W => ∃ (k k1 : Nat) (L L1 : List TotM) (xc xs xv xr xi xo : Int) (a : Option Addr) (cp : Nat), k ≤ m ∧ i = .int .i64 k ∧ L1.length = k1 ∧ W.heap[qb]? = some (.cells #[.int .i64 kp, .int .i64 (x : Int), .bool ob, .int .i64 xc, .int .i64 xs, .int .i64 xv, .int .i64 xr, .int .i64 xi, .int .i64 xo, .slice a k1 cp] 32 (0, 0)) ∧ W.heap[rb]? = some (.cells #[.int .i64 0, .int .i64 0, .bool false, .int .i64 0, .int .i64 0, .int .i64 0, .int .i64 0, .int .i64 0, .int .i64 0, .slice none 0 0] 32 (0, 0)) ∧ W.heap[nb]? = some (.cells #[.int .i64 0, .int .i64 0, .bool false, .int .i64 0, .int .i64 0, .int .i64 0, .int .i64 0, .int .i64 0, .int .i64 0, .slice none 0 0] 32 (0, 0)) ∧ W.ownsRow w.heap.size 29 6 (.slice a k1 cp) k1 (L1.flatMap totC) ∧ shR kp t = (rdT (m - k) (t.drop (7 + 44 * k)) L).map ff ∧ Below w.heap.size w W ∧ ((k ≤ n ∧ k1 = k ∧ L = L1 ∧ xc = 0 ∧ xs = 0 ∧ xv = 0 ∧ xr = 0 ∧ xi = 0 ∧ xo = 0) ∨ (k = n + 1 ∧ k1 = n ∧ L = L1 ++ [TotM.mk xc xs xv xr xi xo]))) (fun i _ => m - (intOf i).toNat)
  case atStart => exact ⟨0, 0, [], [], 0, 0, 0, 0, 0, 0, none, 0, by omega, rfl, rfl, XQ5.out, XR5.out, XN5.out, World.ownsRow_nil _ _ _ _, HY2.out, B5.out, .inl ⟨by omega, rfl, rfl, rfl, rfl, rfl, rfl, rfl, rfl⟩⟩
  case round =>
    obtain ⟨k, k1, L, L1, xc, xs, xv, xr, xi, xo, a, cp, hk, rfl, hL1, hxq, hxr, hxn, hO, hy, hb, hcase⟩ := hrel
    have XQM := hide hxq
    have XRM := hide hxr
    have XNM := hide hxn
    have OM := hide hO
    have BM := hide hb
    have HYM := hide hy
    have HL1 := hide hL1
    clear hxq hxr hxn hO hb hy XQ5 XR5 XN5 B5 HY2
    by_cases hlt : k < m
    · rcases hcase with ⟨hkn, rfl, rfl, rfl, rfl, rfl, rfl, rfl, rfl⟩ | ⟨h1, -, -⟩
      · clear hL1
        have HLTM := hide hlt
        have HKN := hide hkn
        have h1 := HMM.out
        obtain ⟨hw1, hw2, hw3, hw4, hw5, hw6, hbd, hbb1, hbb2, hbb3⟩ := rd_ats m k1 T.size HMM.out hlt HLEN.out
        have h44 : 44 ≤ (t.drop (7 + 44 * k1)).length := by rw [List.length_drop, ← HSZ.out]; have := HLEN.out; omega
        have HAT := hide (fun W => HONE.out (7 + 44 * k1) h44 W)
        have HSTEP := hide (fun (hg : totB (totR (t.drop (7 + 44 * k1))) = true) => (HYM.out.trans (by rw [sub_next hlt, rdT_yes ⟨h44, hg⟩, List.drop_drop]) : shR kp t = (rdT (m - (k1 + 1)) (t.drop (7 + 44 * k1 + 44)) (L ++ [totR (t.drop (7 + 44 * k1))])).map ff))
        have HBADD := hide (fun (hg : totB (totR (t.drop (7 + 44 * k1))) = false) => (HYM.out.trans (by rw [sub_next hlt, rdT_no (fun hh => by rw [hg] at hh; cases hh.2)]; rfl) : shR kp t = none))
        have HBAE := hide (show 7 + 44 * (k1 + 1) = 7 + 44 * k1 + 44 from by omega)
        obtain ⟨b7, hb7⟩ : ∃ b, 7 + 44 * k1 + 44 = b := ⟨_, rfl⟩
        obtain ⟨a7, ha7⟩ : ∃ b, 7 + 44 * k1 = b := ⟨_, rfl⟩
        rw [hb7] at HAT HSTEP hw5 hw6 hbb1 hbb2 HBAE
        rw [ha7] at HAT HSTEP HBADD hw3 hw4 hbb1 hbb3
        clear hb7 ha7
        generalize totR (t.drop a7) = T9 at *
        obtain ⟨tc, ts, tv, tr, ti, tx⟩ := T9
        clear h44 h1 hlt
        go_wp2_with fail
        refine (HAT.out _).mono ?_
        rintro e w5 ⟨hh, hb⟩
        have XQ5 := hide ((hb.block _ (heap_lt XQM.out)).trans XQM.out)
        have XR5 := hide ((hb.block _ (heap_lt XRM.out)).trans XRM.out)
        have XN5 := hide ((hb.block _ (heap_lt XNM.out)).trans XNM.out)
        have O5 := hide (owns_below OM.out hb)
        have B5 := hide (BM.out.trans (hb.mono BM.out.size))
        clear hb XQM XRM XNM OM BM HAT hw1 hw2 hw3 hw4 hw5 hw6 hbb1 hbb2 hbb3
        have XB := hide (heap_new w5 (.cells #[.int .i64 0, .int .i64 0, .int .i64 0, .int .i64 0, .int .i64 0, .int .i64 0] 29))
        rcases hh with ⟨hg, rfl⟩ | ⟨hg, ⟨yc, ys, yv, yr, yi, yo⟩, rfl⟩
        · have HSN := hide (HSTEP.out hg)
          unfold totV
          dsimp only
          clear hg HSTEP HBADD HYM
          go_upto_region 16 with (refine rw_store rfl 29 (.tmp 13) (.tmp 94) rfl w5.heap.size rfl #[.int .i64 tc, .int .i64 ts, .int .i64 tv, .int .i64 tr, .int .i64 ti, .int .i64 tx] rfl _ XB.out (by kernel_rfl) rfl (by simp [Value.oneCell']) ?_)
          have hal := (Below.refl w5.heap.size w5).alloc (Nat.le_refl _) (.cells #[.int .i64 0, .int .i64 0, .int .i64 0, .int .i64 0, .int .i64 0, .int .i64 0] 29)
          have ho := setRow_only (w5.alloc (.cells #[.int .i64 0, .int .i64 0, .int .i64 0, .int .i64 0, .int .i64 0, .int .i64 0] 29)) w5.heap.size (#[.int .i64 tc, .int .i64 ts, .int .i64 tv, .int .i64 tr, .int .i64 ti, .int .i64 tx] : Array Value)
          have XT6 := hide (setRow_same (cs := (#[.int .i64 tc, .int .i64 ts, .int .i64 tv, .int .i64 tr, .int .i64 ti, .int .i64 tx] : Array Value)) XB.out)
          have HTN := hide (show rb ≠ w5.heap.size ∧ nb ≠ w5.heap.size ∧ qb ≠ w5.heap.size from by have h1 := heap_lt XR5.out; have h2 := heap_lt XN5.out; have h3 := heap_lt XQ5.out; omega)
          have HTB := hide (show w.heap.size ≤ w5.heap.size from B5.out.size)
          have HOT := hide (show ∀ g, (Value.slice a k1 cp).ownBlock = some g → g ≠ w5.heap.size from fun g hg => by have := (O5.out.lt g hg).2; omega)
          have XR6 := hide ((ho.block _ (heap_lt ((hal.block _ (heap_lt XR5.out)).trans XR5.out)) HTN.out.1).trans ((hal.block _ (heap_lt XR5.out)).trans XR5.out))
          have XN6 := hide ((ho.block _ (heap_lt ((hal.block _ (heap_lt XN5.out)).trans XN5.out)) HTN.out.2.1).trans ((hal.block _ (heap_lt XN5.out)).trans XN5.out))
          have XQ6 := hide ((ho.block _ (heap_lt ((hal.block _ (heap_lt XQ5.out)).trans XQ5.out)) HTN.out.2.2).trans ((hal.block _ (heap_lt XQ5.out)).trans XQ5.out))
          have O6 := hide (owns_lonely (owns_below O5.out hal) (OnlyL.of_only ho (List.mem_singleton.2 rfl)) (fun g hg hm => HOT.out g hg (List.mem_singleton.1 hm)))
          have B6 := hide (setRow_below (B5.out.trans (hal.mono B5.out.size)) HTB.out (B5.out.trans (hal.mono B5.out.size)).size (#[.int .i64 tc, .int .i64 ts, .int .i64 tv, .int .i64 tr, .int .i64 ti, .int .i64 tx] : Array Value))
          clear hal ho XR5 XN5 XQ5 O5 B5 XB
          generalize (w5.alloc (.cells #[.int .i64 0, .int .i64 0, .int .i64 0, .int .i64 0, .int .i64 0, .int .i64 0] 29)).setRow w5.heap.size (#[.int .i64 tc, .int .i64 ts, .int .i64 tv, .int .i64 tr, .int .i64 ti, .int .i64 tx] : Array Value) = w6 at *
          generalize w5.heap.size = tb at *
          have HOQ := hide (show (Value.slice a k1 cp).ownBlock ≠ some qb from fun e => by
            obtain ⟨c', fz', hc⟩ := Go.Lib.ownsRow_kind O6.out qb e
            rw [XQ6.out] at hc
            simp only [Option.some.injEq, Obj.cells.injEq] at hc
            exact absurd hc.2.1 (by decide))
          by_cases hkk : k1 < n
          · have g : decide ((k1 : Int) < (n : Int)) = true := decide_eq_true (by omega)
            have c9 := cell_of_block XQ6.out 9
            obtain ⟨t0, t1, t2, t3, t4, t5⟩ := six_cells XT6.out
            have hA := (Below.refl w6.heap.size w6).alloc (Nat.le_refl _) (.cells #[.int .i64 tc, .int .i64 ts, .int .i64 tv, .int .i64 tr, .int .i64 ti, .int .i64 tx] 29)
            have HNEW := hide (six_at (heap_new w6 (.cells #[.int .i64 tc, .int .i64 ts, .int .i64 tv, .int .i64 tr, .int .i64 ti, .int .i64 tx] 29)))
            have OA := hide (owns_below O6.out hA)
            have BA := hide (B6.out.trans (hA.mono B6.out.size))
            have XQA := hide ((hA.block _ (heap_lt XQ6.out)).trans XQ6.out)
            have XRA := hide ((hA.block _ (heap_lt XR6.out)).trans XR6.out)
            have XNA := hide ((hA.block _ (heap_lt XN6.out)).trans XN6.out)
            have HWA := hide (show w.heap.size ≤ (w6.alloc (.cells #[.int .i64 tc, .int .i64 ts, .int .i64 tv, .int .i64 tr, .int .i64 ti, .int .i64 tx] 29)).heap.size from BA.out.size)
            clear hA
            go_wp2_with (at_builtin; refine wpList_append_own2 _ rfl _ _ 30 rfl w.heap.size 29 i0 (.agg #[.int .i64 0, .int .i64 0, .int .i64 0, .int .i64 0, .int .i64 0, .int .i64 0]) 6 48 Try.underlying30 HI.out HZ0.out HZ1.out HZ2.out rfl (by decide) (.slice a k1 cp) k1 (L.flatMap totC) rfl OA.out ⟨w6.heap.size, 0, none⟩ 1 1 (by decide) [.int .i64 tc, .int .i64 ts, .int .i64 tv, .int .i64 tr, .int .i64 ti, .int .i64 tx] rfl rfl HNEW.out (totC_one ⟨tc, ts, tv, tr, ti, tx⟩) (by unfold maxLen; have := HMM.out; have := HLTM.out; omega) (by have := HMM.out; have := HLTM.out; omega) HWA.out ?_; intro g3 c3' w' ho hgr hnil; have HO7 := hide ho; have HGR := hide hgr; clear ho hgr hnil c9 t0 t1 t2 t3 t4 t5; have XQG := hide (grown_stays OA.out HGR.out XQA.out (by decide)); have c9 := cell_of_block XQG.out 9; have f9 := frozen_of_block XQG.out 9)
            clear c9 f9
            have XRG := hide (grown_stays OA.out HGR.out XRA.out (by decide))
            have XNG := hide (grown_stays OA.out HGR.out XNA.out (by decide))
            have BG := hide (BA.out.grown HGR.out BA.out.size (fun j h => (OA.out.lt j h).1))
            have HGQ := hide (show (Value.slice (some ⟨g3, 0, none⟩) (k1 + 1) c3').ownBlock ≠ some qb from fun e => by
              obtain ⟨c', fz', hc⟩ := Go.Lib.ownsRow_kind HO7.out qb e
              rw [XQG.out] at hc
              simp only [Option.some.injEq, Obj.cells.injEq] at hc
              exact absurd hc.2.1 (by decide))
            have XQ8 := hide (show (w'.setCell ⟨qb, 9, none⟩ (.slice (some ⟨g3, 0, none⟩) (k1 + 1) c3')).heap[qb]? = some (.cells #[.int .i64 kp, .int .i64 (x : Int), .bool ob, .int .i64 0, .int .i64 0, .int .i64 0, .int .i64 0, .int .i64 0, .int .i64 0, .slice (some ⟨g3, 0, none⟩) (k1 + 1) c3'] 32 (0, 0)) from block_setCell XQG.out 9 (.slice (some ⟨g3, 0, none⟩) (k1 + 1) c3'))
            have XR8 := hide ((block_setCell_other HNB.out.2.1.symm 9 (.slice (some ⟨g3, 0, none⟩) (k1 + 1) c3')).trans XRG.out)
            have XN8 := hide ((block_setCell_other HNB.out.2.2.symm 9 (.slice (some ⟨g3, 0, none⟩) (k1 + 1) c3')).trans XNG.out)
            have O8 := hide (ownsRow_setCell_other (a := ⟨qb, 9, none⟩) HO7.out HGQ.out (.slice (some ⟨g3, 0, none⟩) (k1 + 1) c3'))
            have B8 := hide (BG.out.setCell (p := ⟨qb, 9, none⟩) HQB.out (.slice (some ⟨g3, 0, none⟩) (k1 + 1) c3'))
            go_roundw
            case rel => exact ⟨k1 + 1, k1 + 1, L ++ [TotM.mk tc ts tv tr ti tx], L ++ [TotM.mk tc ts tv tr ti tx], 0, 0, 0, 0, 0, 0, some ⟨g3, 0, none⟩, c3', HLTM.out, by go_num, by rw [List.length_append, HL1.out]; rfl, XQ8.out, XR8.out, XN8.out, by rw [flat_snoc]; exact O8.out, by rw [HBAE.out]; exact HSN.out, B8.out, .inl ⟨by omega, rfl, rfl, rfl, rfl, rfl, rfl, rfl, rfl⟩⟩
            case measure => have := HLTM.out; simp [intOf]; omega
          · have g : decide ((k1 : Int) < (n : Int)) = false := decide_eq_false (by omega)
            have HKE := hide (show k1 = n from Nat.le_antisymm HKN.out (Nat.le_of_not_lt hkk))
            obtain ⟨t0, t1, t2, t3, t4, t5⟩ := six_cells XT6.out
            have c3 := cell_of_block XQ6.out 3
            have c4 := cell_of_block XQ6.out 4
            have c5 := cell_of_block XQ6.out 5
            have c6 := cell_of_block XQ6.out 6
            have c7 := cell_of_block XQ6.out 7
            have c8 := cell_of_block XQ6.out 8
            have f3 := frozen_of_block XQ6.out 3
            have f4 := frozen_of_block XQ6.out 4
            have f5 := frozen_of_block XQ6.out 5
            have f6 := frozen_of_block XQ6.out 6
            have f7 := frozen_of_block XQ6.out 7
            have f8 := frozen_of_block XQ6.out 8
            have c9 := cell_of_block XQ6.out 9
            go_wp2_with fail
            clear hkk c9 t0 t1 t2 t3 t4 t5 c3 c4 c5 c6 c7 c8 f3 f4 f5 f6 f7 f8
            have Nd3 := hide (show (w6.setCell ⟨qb, 3, none⟩ (.int .i64 tc)).heap[qb]? = some (.cells #[.int .i64 kp, .int .i64 x, .bool ob, .int .i64 tc, .int .i64 0, .int .i64 0, .int .i64 0, .int .i64 0, .int .i64 0, .slice a k1 cp] 32 (0, 0)) from block_setCell XQ6.out 3 (.int .i64 tc))
            have Bd3 := hide (B6.out.setCell (p := ⟨qb, 3, none⟩) HQB.out (.int .i64 tc))
            have Od3 := hide (ownsRow_setCell_other (a := ⟨qb, 3, none⟩) O6.out HOQ.out (.int .i64 tc))
            have Rd3 := hide ((block_setCell_other HNB.out.2.1.symm 3 (.int .i64 tc)).trans XR6.out)
            have Md3 := hide ((block_setCell_other HNB.out.2.2.symm 3 (.int .i64 tc)).trans XN6.out)
            generalize w6.setCell ⟨qb, 3, none⟩ (.int .i64 tc) = wd3 at *
            have Nd4 := hide (show (wd3.setCell ⟨qb, 4, none⟩ (.int .i64 ts)).heap[qb]? = some (.cells #[.int .i64 kp, .int .i64 x, .bool ob, .int .i64 tc, .int .i64 ts, .int .i64 0, .int .i64 0, .int .i64 0, .int .i64 0, .slice a k1 cp] 32 (0, 0)) from block_setCell Nd3.out 4 (.int .i64 ts))
            have Bd4 := hide (Bd3.out.setCell (p := ⟨qb, 4, none⟩) HQB.out (.int .i64 ts))
            have Od4 := hide (ownsRow_setCell_other (a := ⟨qb, 4, none⟩) Od3.out HOQ.out (.int .i64 ts))
            have Rd4 := hide ((block_setCell_other HNB.out.2.1.symm 4 (.int .i64 ts)).trans Rd3.out)
            have Md4 := hide ((block_setCell_other HNB.out.2.2.symm 4 (.int .i64 ts)).trans Md3.out)
            generalize wd3.setCell ⟨qb, 4, none⟩ (.int .i64 ts) = wd4 at *
            have Nd5 := hide (show (wd4.setCell ⟨qb, 5, none⟩ (.int .i64 tv)).heap[qb]? = some (.cells #[.int .i64 kp, .int .i64 x, .bool ob, .int .i64 tc, .int .i64 ts, .int .i64 tv, .int .i64 0, .int .i64 0, .int .i64 0, .slice a k1 cp] 32 (0, 0)) from block_setCell Nd4.out 5 (.int .i64 tv))
            have Bd5 := hide (Bd4.out.setCell (p := ⟨qb, 5, none⟩) HQB.out (.int .i64 tv))
            have Od5 := hide (ownsRow_setCell_other (a := ⟨qb, 5, none⟩) Od4.out HOQ.out (.int .i64 tv))
            have Rd5 := hide ((block_setCell_other HNB.out.2.1.symm 5 (.int .i64 tv)).trans Rd4.out)
            have Md5 := hide ((block_setCell_other HNB.out.2.2.symm 5 (.int .i64 tv)).trans Md4.out)
            generalize wd4.setCell ⟨qb, 5, none⟩ (.int .i64 tv) = wd5 at *
            have Nd6 := hide (show (wd5.setCell ⟨qb, 6, none⟩ (.int .i64 tr)).heap[qb]? = some (.cells #[.int .i64 kp, .int .i64 x, .bool ob, .int .i64 tc, .int .i64 ts, .int .i64 tv, .int .i64 tr, .int .i64 0, .int .i64 0, .slice a k1 cp] 32 (0, 0)) from block_setCell Nd5.out 6 (.int .i64 tr))
            have Bd6 := hide (Bd5.out.setCell (p := ⟨qb, 6, none⟩) HQB.out (.int .i64 tr))
            have Od6 := hide (ownsRow_setCell_other (a := ⟨qb, 6, none⟩) Od5.out HOQ.out (.int .i64 tr))
            have Rd6 := hide ((block_setCell_other HNB.out.2.1.symm 6 (.int .i64 tr)).trans Rd5.out)
            have Md6 := hide ((block_setCell_other HNB.out.2.2.symm 6 (.int .i64 tr)).trans Md5.out)
            generalize wd5.setCell ⟨qb, 6, none⟩ (.int .i64 tr) = wd6 at *
            have Nd7 := hide (show (wd6.setCell ⟨qb, 7, none⟩ (.int .i64 ti)).heap[qb]? = some (.cells #[.int .i64 kp, .int .i64 x, .bool ob, .int .i64 tc, .int .i64 ts, .int .i64 tv, .int .i64 tr, .int .i64 ti, .int .i64 0, .slice a k1 cp] 32 (0, 0)) from block_setCell Nd6.out 7 (.int .i64 ti))
            have Bd7 := hide (Bd6.out.setCell (p := ⟨qb, 7, none⟩) HQB.out (.int .i64 ti))
            have Od7 := hide (ownsRow_setCell_other (a := ⟨qb, 7, none⟩) Od6.out HOQ.out (.int .i64 ti))
            have Rd7 := hide ((block_setCell_other HNB.out.2.1.symm 7 (.int .i64 ti)).trans Rd6.out)
            have Md7 := hide ((block_setCell_other HNB.out.2.2.symm 7 (.int .i64 ti)).trans Md6.out)
            generalize wd6.setCell ⟨qb, 7, none⟩ (.int .i64 ti) = wd7 at *
            have Nd8 := hide (show (wd7.setCell ⟨qb, 8, none⟩ (.int .i64 tx)).heap[qb]? = some (.cells #[.int .i64 kp, .int .i64 x, .bool ob, .int .i64 tc, .int .i64 ts, .int .i64 tv, .int .i64 tr, .int .i64 ti, .int .i64 tx, .slice a k1 cp] 32 (0, 0)) from block_setCell Nd7.out 8 (.int .i64 tx))
            have Bd8 := hide (Bd7.out.setCell (p := ⟨qb, 8, none⟩) HQB.out (.int .i64 tx))
            have Od8 := hide (ownsRow_setCell_other (a := ⟨qb, 8, none⟩) Od7.out HOQ.out (.int .i64 tx))
            have Rd8 := hide ((block_setCell_other HNB.out.2.1.symm 8 (.int .i64 tx)).trans Rd7.out)
            have Md8 := hide ((block_setCell_other HNB.out.2.2.symm 8 (.int .i64 tx)).trans Md7.out)
            generalize wd7.setCell ⟨qb, 8, none⟩ (.int .i64 tx) = wd8 at *
            go_roundw
            case rel => exact ⟨k1 + 1, k1, L ++ [TotM.mk tc ts tv tr ti tx], L, tc, ts, tv, tr, ti, tx, a, cp, HLTM.out, by go_num, HL1.out, Nd8.out, Rd8.out, Md8.out, Od8.out, by rw [HBAE.out]; exact HSN.out, Bd8.out, .inr ⟨by rw [HKE.out], HKE.out, rfl⟩⟩
            case measure => have := HLTM.out; simp [intOf]; omega
        · have HNN := hide (HBADD.out hg)
          unfold totV
          dsimp only
          clear hg HSTEP HBADD HYM
          go_upto_region 16 with (refine rw_store rfl 29 (.tmp 13) (.tmp 94) rfl w5.heap.size rfl #[.int .i64 yc, .int .i64 ys, .int .i64 yv, .int .i64 yr, .int .i64 yi, .int .i64 yo] rfl _ XB.out (by kernel_rfl) rfl (by simp [Value.oneCell']) ?_)
          have hal := (Below.refl w5.heap.size w5).alloc (Nat.le_refl _) (.cells #[.int .i64 0, .int .i64 0, .int .i64 0, .int .i64 0, .int .i64 0, .int .i64 0] 29)
          have ho := setRow_only (w5.alloc (.cells #[.int .i64 0, .int .i64 0, .int .i64 0, .int .i64 0, .int .i64 0, .int .i64 0] 29)) w5.heap.size (#[.int .i64 yc, .int .i64 ys, .int .i64 yv, .int .i64 yr, .int .i64 yi, .int .i64 yo] : Array Value)
          have XT6 := hide (setRow_same (cs := (#[.int .i64 yc, .int .i64 ys, .int .i64 yv, .int .i64 yr, .int .i64 yi, .int .i64 yo] : Array Value)) XB.out)
          have HTN := hide (show rb ≠ w5.heap.size ∧ nb ≠ w5.heap.size ∧ qb ≠ w5.heap.size from by have h1 := heap_lt XR5.out; have h2 := heap_lt XN5.out; have h3 := heap_lt XQ5.out; omega)
          have HTB := hide (show w.heap.size ≤ w5.heap.size from B5.out.size)
          have HOT := hide (show ∀ g, (Value.slice a k1 cp).ownBlock = some g → g ≠ w5.heap.size from fun g hg => by have := (O5.out.lt g hg).2; omega)
          have XR6 := hide ((ho.block _ (heap_lt ((hal.block _ (heap_lt XR5.out)).trans XR5.out)) HTN.out.1).trans ((hal.block _ (heap_lt XR5.out)).trans XR5.out))
          have XN6 := hide ((ho.block _ (heap_lt ((hal.block _ (heap_lt XN5.out)).trans XN5.out)) HTN.out.2.1).trans ((hal.block _ (heap_lt XN5.out)).trans XN5.out))
          have XQ6 := hide ((ho.block _ (heap_lt ((hal.block _ (heap_lt XQ5.out)).trans XQ5.out)) HTN.out.2.2).trans ((hal.block _ (heap_lt XQ5.out)).trans XQ5.out))
          have O6 := hide (owns_lonely (owns_below O5.out hal) (OnlyL.of_only ho (List.mem_singleton.2 rfl)) (fun g hg hm => HOT.out g hg (List.mem_singleton.1 hm)))
          have B6 := hide (setRow_below (B5.out.trans (hal.mono B5.out.size)) HTB.out (B5.out.trans (hal.mono B5.out.size)).size (#[.int .i64 yc, .int .i64 ys, .int .i64 yv, .int .i64 yr, .int .i64 yi, .int .i64 yo] : Array Value))
          clear hal ho XR5 XN5 XQ5 O5 B5 XB
          generalize (w5.alloc (.cells #[.int .i64 0, .int .i64 0, .int .i64 0, .int .i64 0, .int .i64 0, .int .i64 0] 29)).setRow w5.heap.size (#[.int .i64 yc, .int .i64 ys, .int .i64 yv, .int .i64 yr, .int .i64 yi, .int .i64 yo] : Array Value) = w6 at *
          generalize w5.heap.size = tb at *
          go_wp2_with (first | (refine rw_load rfl 32 (.tmp 7) rfl nb rfl 32 _ (0, 0) _ XN6.out Try.underlying32 rfl (by kernel_rfl) ?_) | (refine rw_store rfl 32 (.tmp 4) (.tmp 98) rfl rb rfl #[.int .i64 0, .int .i64 0, .bool false, .int .i64 0, .int .i64 0, .int .i64 0, .int .i64 0, .int .i64 0, .int .i64 0, .slice none 0 0] rfl _ XR6.out (by kernel_rfl) rfl (by simp [Value.oneCell']) ?_))
          have XF := hide (setRow_same (cs := (#[.int .i64 0, .int .i64 0, .bool false, .int .i64 0, .int .i64 0, .int .i64 0, .int .i64 0, .int .i64 0, .int .i64 0, .slice none 0 0] : Array Value)) XR6.out)
          have BF := hide (setRow_below B6.out HRB.out B6.out.size (#[.int .i64 0, .int .i64 0, .bool false, .int .i64 0, .int .i64 0, .int .i64 0, .int .i64 0, .int .i64 0, .int .i64 0, .slice none 0 0] : Array Value))
          (try simp only [Exit.inBlock, Exit.then])
          refine bodyPost_ret (res_ctt (P := Try.prog) rfl _ _ rb 32 #[.int .i64 0, .int .i64 0, .bool false, .int .i64 0, .int .i64 0, .int .i64 0, .int .i64 0, .int .i64 0, .int .i64 0, .slice none 0 0] (0, 0) _ rfl XF.out Try.underlying32 rfl (by kernel_rfl)) rfl ?_
          exact ⟨.inl ⟨HNN.out, rfl⟩, BF.out⟩
      · exfalso
        have := HM.out
        have := HO1.out
        omega
    · obtain rfl : k = m := by omega
      clear hlt
      rw [Nat.sub_self] at HYM
      have HSO := hide (show shR kp t = some (mkSh kp x o n L, t.drop (7 + 44 * k)) from by rw [HYM.out, HFF.out]; rfl)
      have HLN := hide (show ((t.length : Int) - ((t.drop (7 + 44 * k)).length : Int)) = 7 + 44 * (k : Int) from by rw [List.length_drop]; have := HLEN.out; have := HSZ.out; omega)
      have ha1 := HA1.out
      have ha2 := HA2.out
      have ha3 := HA3.out
      have ha4 := HA4.out
      go_wp2_with (first | (refine rw_load rfl 32 (.tmp 9) rfl qb rfl 32 _ (0, 0) _ XQM.out Try.underlying32 rfl (by kernel_rfl) ?_) | (refine rw_store rfl 32 (.tmp 4) (.tmp 110) rfl rb rfl #[.int .i64 kp, .int .i64 (x : Int), .bool ob, .int .i64 xc, .int .i64 xs, .int .i64 xv, .int .i64 xr, .int .i64 xi, .int .i64 xo, .slice a k1 cp] rfl _ XRM.out (by kernel_rfl) rfl (by simp [Value.oneCell']) ?_))
      have XF := hide (setRow_same (cs := (#[.int .i64 kp, .int .i64 (x : Int), .bool ob, .int .i64 xc, .int .i64 xs, .int .i64 xv, .int .i64 xr, .int .i64 xi, .int .i64 xo, .slice a k1 cp] : Array Value)) XRM.out)
      have BF := hide (setRow_below BM.out HRB.out BM.out.size (#[.int .i64 kp, .int .i64 (x : Int), .bool ob, .int .i64 xc, .int .i64 xs, .int .i64 xv, .int .i64 xr, .int .i64 xi, .int .i64 xo, .slice a k1 cp] : Array Value))
      have OF := hide (owns_lonely OM.out (OnlyL.of_only (setRow_only wr rb (#[.int .i64 kp, .int .i64 (x : Int), .bool ob, .int .i64 xc, .int .i64 xs, .int .i64 xv, .int .i64 xr, .int .i64 xi, .int .i64 xo, .slice a k1 cp] : Array Value)) (List.mem_singleton.2 rfl)) (fun g hg hm => by
        rw [List.mem_singleton.1 hm] at hg
        obtain ⟨c', fz', hc⟩ := Go.Lib.ownsRow_kind OM.out rb hg
        rw [XRM.out] at hc
        simp only [Option.some.injEq, Obj.cells.injEq] at hc
        exact absurd hc.2.1 (by decide)))
      (try simp only [Exit.inBlock, Exit.then])
      refine bodyPost_ret (res_ctt (P := Try.prog) rfl _ _ rb 32 #[.int .i64 kp, .int .i64 (x : Int), .bool ob, .int .i64 xc, .int .i64 xs, .int .i64 xv, .int .i64 xr, .int .i64 xi, .int .i64 xo, .slice a k1 cp] (0, 0) _ rfl XF.out Try.underlying32 rfl (by kernel_rfl)) rfl ?_
      refine ⟨.inr ⟨mkSh kp x o n L, t.drop (7 + 44 * k), ⟨xc, xs, xv, xr, xi, xo⟩, a, cp, HSO.out, ?_, ?_⟩, BF.out⟩
      · rw [HLN.out]
        rcases hcase with ⟨h1, rfl, rfl, rfl, rfl, rfl, rfl, rfl, rfl⟩ | ⟨h1, rfl, rfl⟩
        · have hz : o = 0 := by have := HM.out; omega
          have hbz := HOBE.out
          subst hz
          rw [← hbz]
          rw [show mkSh kp x 0 n L = ⟨kp, x, false, tot0, L⟩ from if_neg (by decide)]
          unfold rsV
          dsimp only
          rw [hL1]
          rfl
        · have hz : o = 1 := by have := HM.out; have := HO1.out; omega
          have hbz := HOBE.out
          subst hz
          rw [← hbz]
          rw [HMK.out _ _ hL1]
          unfold rsV
          dsimp only
          rw [hL1]
          rfl
      · rcases hcase with ⟨h1, rfl, rfl, rfl, rfl, rfl, rfl, rfl, rfl⟩ | ⟨h1, rfl, rfl⟩
        · have hz : o = 0 := by have := HM.out; omega
          subst hz
          rw [show mkSh kp x 0 n L = ⟨kp, x, false, tot0, L⟩ from if_neg (by decide)]
          refine ⟨?_, fun h => by cases h⟩
          show World.ownsRow _ 0 29 6 (.slice a L.length cp) L.length (L.flatMap totC)
          rw [hL1]
          exact owns_mono0 OF.out (Nat.zero_le _)
        · have hz : o = 1 := by have := HM.out; have := HO1.out; omega
          subst hz
          rw [HMK.out _ _ hL1]
          refine ⟨?_, fun _ => rfl⟩
          show World.ownsRow _ 0 29 6 (.slice a L1.length cp) L1.length (L1.flatMap totC)
          rw [hL1]
          exact owns_mono0 OF.out (Nat.zero_le _)
end Go.Proofs.Ytfdgfeohmkdnoaa
