/-
  Layer 23: the document's Trial.
-/
import Derived.Test.YtjnfmgbbhiklaaaRBooks2
--import Derived.Test.Zdbg
namespace Go.Proofs.Ytjnfmgbbhiklaaa
set_option linter.unusedSimpArgs false
set_option linter.unusedVariables false
open Go.RowKit Go.WideShapes Go.ChangeShapes Go.ChangeAt Go.Deep

def RTriIs (M : List LnM) (w : World) (e : Ending) (w' : World) : Prop := e = .returned (.tuple #[.int .i64 (triD M), .int .i64 (triC M), .int .i64 (triE M)]) ∧ Below w.heap.size w w'
/-- what the sums' numbers say -/
theorem tri_parts (M : List LnM) : (inR (aboveB M).sum → inR (belowB M).sum → inR (0 - (belowB M).sum) → triE M = 0 ∧ triD M = (aboveB M).sum ∧ triC M = 0 - (belowB M).sum) ∧ (¬ (inR (aboveB M).sum ∧ inR (belowB M).sum ∧ inR (0 - (belowB M).sum)) → triE M = 6 ∧ triD M = 0 ∧ triC M = 0) := by
  have hE : triE M = if ¬ inR (aboveB M).sum then 6 else trnE (belowB M).sum := rfl
  have hD : triD M = if triE M = 0 then (aboveB M).sum else 0 := rfl
  have hC : triC M = if triE M = 0 then trnV (belowB M).sum else 0 := rfl
  have hB : trnE (belowB M).sum = if inR (belowB M).sum then sumE (0 - (belowB M).sum) else 6 := rfl
  have hV : trnV (belowB M).sum = if inR (belowB M).sum then sumV (0 - (belowB M).sum) else 0 := rfl
  constructor
  · intro h1 h2 h3
    rw [if_neg (fun h => h h1), hB, if_pos h2, (sum_in h3).2] at hE
    rw [hE, if_pos rfl] at hD hC
    rw [hV, if_pos h2, (sum_in h3).1] at hC
    exact ⟨hE, hD, hC⟩
  · intro h
    have h6 : triE M = 6 := by
      rw [hE]
      by_cases h1 : inR (aboveB M).sum
      · rw [if_neg (fun h => h h1), hB]
        by_cases h2 : inR (belowB M).sum
        · rw [if_pos h2]
          exact (sum_out (fun h3 => h ⟨h1, h2, h3⟩)).2
        · rw [if_neg h2]
      · rw [if_pos h1]
    rw [h6, if_neg (by decide)] at hD hC
    exact ⟨h6, hD, hC⟩
set_option maxRecDepth 100000 in
set_option maxHeartbeats 1000000 in
theorem rbTrial (M : List LnM) (hML : M.length ≤ 1000) (hok : ∀ x ∈ M, inR x.n) (a : Option Addr) (cap : Nat) (w : World) (hin : LnIn w a M) :
    Calls Try.prog 13 #[.slice a M.length cap] w (RTriIs M w) := by
  obtain ⟨i0, hi, hz0, hz1, hz2⟩ := info_parts (show (Try.prog.info? 2).map (fun i => (i.zero, i.size, i.bytes)) = some (some (.int .i64 0), 1, 8) by kernel_rfl)
  have HI := hide hi
  have HZ0 := hide hz0
  have HZ1 := hide hz1
  have HZ2 := hide hz2
  have HIN := hide hin
  have HIA := hide (above_in M hok)
  have HIB := hide (below_in M hok)
  clear hi hz0 hz1 hz2 hin hok
  have B1 := hide ((Below.refl w.heap.size w).alloc (Nat.le_refl _) (.cells #[] 2))
  go_enter Try.func13, Try.ntmps13
  go_wp2_with fail
  generalize w.alloc (.cells #[] 2) = w1 at *
  go_loopw [5, 7, 8] (fun s u i W => ∃ (k : Nat) (a5 : Option Addr) (c5 : Nat) (a6 : Option Addr) (c6 : Nat), k ≤ M.length ∧ i = .int .i64 k ∧ s = .slice a5 (aboveB (M.take k)).length c5 ∧ u = .slice a6 (belowB (M.take k)).length c6 ∧ W.ownsRow w1.heap.size 2 1 (.slice a5 (aboveB (M.take k)).length c5) (aboveB (M.take k)).length ((aboveB (M.take k)).map (Value.int .i64)) ∧ W.ownsRow w1.heap.size 2 1 (.slice a6 (belowB (M.take k)).length c6) (belowB (M.take k)).length ((belowB (M.take k)).map (Value.int .i64)) ∧ ApartV (.slice a5 (aboveB (M.take k)).length c5) (.slice a6 (belowB (M.take k)).length c6) ∧ Below w1.heap.size w1 W) (fun s u i _ => M.length - (intOf i).toNat)
  case atStart => exact ⟨0, none, 0, none, 0, by omega, rfl, rfl, rfl, World.ownsRow_nil _ _ _ _, World.ownsRow_nil _ _ _ _, apart_nil _, Below.refl _ _⟩
  case round =>
    obtain ⟨k, a5, c5, a6, c6, hk, rfl, rfl, rfl, h5, h6, hap, hb⟩ := hrel
    have O5 := hide h5
    have O6 := hide h6
    have AP := hide hap
    have HB := hide hb
    clear h5 h6 hap hb
    by_cases hlt : k < M.length
    · obtain ⟨b, off, rfl, hbl, c0, c1⟩ := (HIN.out.below (B1.out.trans (HB.out.mono B1.out.size))) k hlt
      have HNA := hide (above_next M k hlt)
      have HNB := hide (below_next M k hlt)
      have hla : (aboveB (M.take k)).length ≤ 1000 := by
        have h1 := above_len (M.take k)
        rw [List.length_take] at h1
        omega
      have hlb : (belowB (M.take k)).length ≤ 1000 := by
        have h1 := below_len (M.take k)
        rw [List.length_take] at h1
        omega
      generalize aboveB (M.take k) = X at *
      generalize belowB (M.take k) = Y at *
      generalize M.getD k ln0 = x at *
      obtain ⟨xc, xn⟩ := x
      dsimp only at *
      have hA := (Below.refl wr.heap.size wr).alloc (Nat.le_refl _) (.cells #[.int .i64 xn] 2)
      have P5 := hide (owns_below O5.out hA)
      have P6 := hide (owns_below O6.out hA)
      have B2 := hide (HB.out.alloc HB.out.size (.cells #[.int .i64 xn] 2))
      have hw5 : w1.heap.size ≤ (wr.alloc (.cells #[.int .i64 xn] 2)).heap.size := B2.out.size
      have XN := hide (heap_new wr (.cells #[.int .i64 xn] 2))
      clear hA O5 O6 HB
      by_cases hx : 0 < xn
      · rw [if_pos hx] at HNA HNB
        go_wp2_with (at_builtin; refine wpList_append_own2 _ rfl _ _ 67 rfl w1.heap.size 2 i0 (.int .i64 0) 1 8 Try.underlying67 HI.out HZ0.out HZ1.out HZ2.out rfl (by decide) (.slice a5 X.length c5) X.length (X.map (Value.int .i64)) rfl P5.out ⟨wr.heap.size, 0, none⟩ 1 1 (by decide) [.int .i64 xn] rfl rfl (cells_new XN.out) (one_int _) (by unfold maxLen; omega) (by omega) hw5 ?_; intro g3 c3' w3 ho hgr hnil; have Q5 := hide ho; have Q6 := hide (owns_apart P6.out AP.out hgr); have AQ := hide (apart_grown (k := X.length + 1) (c := c3') P6.out AP.out hnil); have B3 := hide (B2.out.grown hgr B2.out.size (fun jj hj => (P5.out.lt jj hj).1)); clear ho hgr hnil)
        go_roundw
        case rel => exact ⟨k + 1, some ⟨g3, 0, none⟩, c3', a6, c6, by omega, by go_num, by rw [HNA.out]; simp, by rw [HNB.out], by rw [HNA.out]; simpa using Q5.out, by rw [HNB.out]; exact Q6.out, by rw [HNA.out, HNB.out]; simpa using AQ.out, B3.out⟩
        case measure => simp [intOf]; omega
      · rw [if_neg hx] at HNA HNB
        go_wp2_with (at_builtin; refine wpList_append_own2 _ rfl _ _ 67 rfl w1.heap.size 2 i0 (.int .i64 0) 1 8 Try.underlying67 HI.out HZ0.out HZ1.out HZ2.out rfl (by decide) (.slice a6 Y.length c6) Y.length (Y.map (Value.int .i64)) rfl P6.out ⟨wr.heap.size, 0, none⟩ 1 1 (by decide) [.int .i64 xn] rfl rfl (cells_new XN.out) (one_int _) (by unfold maxLen; omega) (by omega) hw5 ?_; intro g3 c3' w3 ho hgr hnil; have Q6 := hide ho; have Q5 := hide (owns_apart P5.out AP.out.symm hgr); have AQ := hide (apart_grown (k := Y.length + 1) (c := c3') P5.out AP.out.symm hnil).symm; have B3 := hide (B2.out.grown hgr B2.out.size (fun jj hj => (P6.out.lt jj hj).1)); clear ho hgr hnil)
        go_roundw
        case rel => exact ⟨k + 1, a5, c5, some ⟨g3, 0, none⟩, c3', by omega, by go_num, by rw [HNA.out], by rw [HNB.out]; simp, by rw [HNA.out]; exact Q5.out, by rw [HNB.out]; simpa using Q6.out, by rw [HNA.out, HNB.out]; simpa using AQ.out, B3.out⟩
        case measure => simp [intOf]; omega
    · obtain rfl : k = M.length := by omega
      rw [List.take_length] at O5 O6 AP
      simp only [List.take_length]
      have HLA := above_len M
      have HLB := below_len M
      have HT5 := hide (rtotal_owns (aboveB M) HIA.out (by omega) a5 c5 _ wr O5.out)
      have HBB := hide (B1.out.trans (HB.out.mono B1.out.size))
      obtain ⟨tp1, tp2⟩ := tri_parts M
      have TP1 := hide tp1
      have TP2 := hide tp2
      clear tp1 tp2
      go_wp2_with fail
      refine HT5.out.mono ?_
      rintro e w2 ⟨rfl, hb⟩
      have O7 := hide (owns_below O6.out hb)
      have B7 := hide (HBB.out.trans (hb.mono HBB.out.size))
      clear hb HT5 O5 O6 HBB AP HB
      have HT6 := hide (rtotal_owns (belowB M) HIB.out (by omega) a6 c6 _ w2 O7.out)
      go_wp2_with fail
      refine HT6.out.mono ?_
      rintro e w3 ⟨rfl, hb⟩
      have B8 := hide (B7.out.trans (hb.mono B7.out.size))
      clear hb HT6 O7 B7
      go_wp2_with fail
      refine (rtotal_zero _ _ w3).mono ?_
      rintro e w4 ⟨rfl, hb⟩
      have B9 := hide (B8.out.trans (hb.mono B8.out.size))
      clear hb B8
      have hsv : inR (sumV (belowB M).sum) := by
        by_cases h : inR (belowB M).sum
        · rw [(sum_in h).1]; exact h
        · rw [(sum_out h).1]; unfold inR; omega
      have HS := hide (rsub_any 0 (sumV (belowB M).sum) (by unfold inR; omega) hsv w4)
      clear hsv
      by_cases h2 : inR (belowB M).sum
      · obtain ⟨v2, e2⟩ := sum_in h2
        rw [v2] at HS ⊢
        rw [e2]
        go_wp2_with fail
        refine HS.out.mono ?_
        rintro e w5 ⟨rfl, hb⟩
        have B10 := hide (B9.out.trans (hb.mono B9.out.size))
        clear hb HS B9 v2 e2
        by_cases h1 : inR (aboveB M).sum
        · obtain ⟨v1, e1⟩ := sum_in h1
          rw [v1, e1]
          by_cases h3 : inR (0 - (belowB M).sum)
          · obtain ⟨v3, e3⟩ := sum_in h3
            rw [v3, e3]
            have HH := hide (TP1.out h1 h2 h3)
            clear h1 h2 h3 v1 e1 v3 e3
            go_wp2_with fail
            go_ret3
            exact ⟨by rw [HH.out.1, HH.out.2.1, HH.out.2.2, Int.zero_sub]; rfl, B10.out⟩
          · obtain ⟨v3, e3⟩ := sum_out h3
            rw [v3, e3]
            have HH := hide (TP2.out (fun h => h3 h.2.2))
            clear h1 h2 h3 v1 e1 v3 e3
            go_wp2_with fail
            go_ret3
            exact ⟨by rw [HH.out.1, HH.out.2.1, HH.out.2.2]; rfl, B10.out⟩
        · obtain ⟨v1, e1⟩ := sum_out h1
          rw [v1, e1]
          have HH := hide (TP2.out (fun h => h1 h.1))
          generalize sumV (0 - (belowB M).sum) = y at *
          generalize sumE (0 - (belowB M).sum) = z at *
          clear h1 h2 v1 e1
          go_wp2_with fail
          go_ret3
          exact ⟨by rw [HH.out.1, HH.out.2.1, HH.out.2.2]; rfl, B10.out⟩
      · obtain ⟨v2, e2⟩ := sum_out h2
        rw [v2] at HS ⊢
        rw [e2]
        have HH := hide (TP2.out (fun h => h2 h.2.1))
        generalize sumV (aboveB M).sum = y at *
        generalize hz : sumE (aboveB M).sum = z at *
        have HZE := hide (show z = 0 ∨ z = 6 from by
          rw [← hz]
          by_cases h : inR (aboveB M).sum
          · exact .inl (sum_in h).2
          · exact .inr (sum_out h).2)
        clear h2 v2 e2 hz
        go_wp2_with fail
        refine HS.out.mono ?_
        rintro e w5 ⟨rfl, hb⟩
        have B10 := hide (B9.out.trans (hb.mono B9.out.size))
        clear hb HS B9
        rcases HZE.out with rfl | rfl
        · go_wp2_with fail
          go_ret3
          exact ⟨by rw [HH.out.1, HH.out.2.1, HH.out.2.2]; rfl, B10.out⟩
        · go_wp2_with fail
          go_ret3
          exact ⟨by rw [HH.out.1, HH.out.2.1, HH.out.2.2]; rfl, B10.out⟩
end Go.Proofs.Ytjnfmgbbhiklaaa
