/-
  Layer 9: 'same' by contract.
-/
import Derived.Test.YtfphkldpjfackaaRBbt
namespace Go.Proofs.Ytfphkldpjfackaa
set_option linter.unusedSimpArgs false
set_option linter.unusedVariables false
open Go.RowKit Go.WideShapes Go.ChangeShapes Go.ChangeAt

set_option maxRecDepth 100000 in
set_option maxHeartbeats 400000 in
theorem same_any (v : Int) (n : Nat) (hn1 : 1 ≤ n) (hn : n ≤ 256) (L : List UInt8) (hL : L.length = 32) (g : Nat) (w : World) (hg : w.heap[g]? = some (.cells (badC n L) 4 (0, 0))) :
    Calls Try.prog 9 #[.agg (bbtC v (n : Int) L), .int .u64 v, .slice (some ⟨g, 0, none⟩) n n] w fun e w' => e = .returned (.bool true) ∧ Below w.heap.size w w' := by
  have HVE := hide (fun W => version_any v (n : Int) L hL W)
  have HBL := hide (fun W => blocks_any v (n : Int) L hL W)
  have HHM := hide (fun W => has_any v (n : Int) L hL (by omega) (-1) W)
  have HHN := hide (fun W => has_any v (n : Int) L hL (by omega) (n : Int) W)
  rw [show hasZ (n : Int) L (-1) = false by unfold hasZ; rw [decide_eq_false (by omega), Bool.false_and]] at HHM
  rw [show hasZ (n : Int) L (n : Int) = false by unfold hasZ; rw [decide_eq_false (by omega), Bool.false_and]] at HHN
  have HLI := hide (fun W => list_any v n hn L hL W)
  have HH := hide (show ∀ k : Nat, k < n → ∀ W, Calls Try.prog 17 #[.agg (bbtC v (n : Int) L), .int .i64 (k : Int)] W fun e w' => e = .returned (.bool (hasB L k)) ∧ Below W.heap.size W w' from fun k hk W => by
    have h := has_any v (n : Int) L hL (by omega) (k : Int) W
    rwa [show hasZ (n : Int) L (k : Int) = hasB L k by unfold hasZ; rw [decide_eq_true (by omega), Bool.true_and, Int.toNat_natCast]] at h)
  have HIC := hide (bbt_info v (n : Int) L hL)
  have HLL := hide (badL_le L n)
  generalize bbtC v (n : Int) L = C at *
  have hgl := heap_lt hg
  have HG := hide hg
  have HC0 := hide (heap_new w (.cells C 26))
  have HR0 := hide (RA.fresh (Below.refl w.heap.size w) C)
  clear hg
  go_enter Try.func9, Try.ntmps9
  go_wp2_with (first | (refine wpList_load_row rfl 26 (.tmp 3) rfl w.heap.size rfl 26 C (0, 0) _ HC0.out Try.underlying26 rfl HIC.out ?_))
  refine (HVE.out _).mono ?_
  rintro e w1 ⟨rfl, hb⟩
  have HR1 := hide (HR0.out.kept hb)
  clear hb HR0 HC0 HVE
  go_wp2_with (first | ((with_reducible show wpList _ _ _ _ _ w1); refine load_T_g (by rfl) (.tmp 3) rfl w.heap.size rfl C HR1.out.1 HIC.out ?_))
  refine (HBL.out _).mono ?_
  rintro e w2 ⟨rfl, hb⟩
  have HR2 := hide (HR1.out.kept hb)
  clear hb HR1 HBL
  go_wp2_with (first | ((with_reducible show wpList _ _ _ _ _ w2); refine load_T_g (by rfl) (.tmp 3) rfl w.heap.size rfl C HR2.out.1 HIC.out ?_))
  refine (HHM.out _).mono ?_
  rintro e w3 ⟨rfl, hb⟩
  have HR3 := hide (HR2.out.kept hb)
  clear hb HR2 HHM
  go_wp2_with (first | ((with_reducible show wpList _ _ _ _ _ w3); refine load_T_g (by rfl) (.tmp 3) rfl w.heap.size rfl C HR3.out.1 HIC.out ?_))
  refine (HHN.out _).mono ?_
  rintro e w4 ⟨rfl, hb⟩
  have HR4 := hide (HR3.out.kept hb)
  clear hb HR3 HHN
  go_wp2_with (first | ((with_reducible show wpList _ _ _ _ _ w4); refine wpList_load_row rfl 26 (.tmp 3) rfl w.heap.size rfl 26 C (0, 0) _ HR4.out.1 Try.underlying26 rfl HIC.out ?_))
  refine (HLI.out _).mono ?_
  rintro e w5 ⟨a, cap, rfl, ho, hb⟩
  have HR5 := hide (HR4.out.kept hb)
  have HO5 := hide (RowI.of ho)
  clear hb ho HR4 HLI
  go_wp2_with fail
  go_loopw [8, 36] (fun at_ i W => ∃ k : Nat, k ≤ n ∧ i = .int .i64 k ∧ at_ = .int .i64 ((badL L k).length : Int) ∧ RA w W w.heap.size C ∧ RowI W a (badL L n)) (fun _ i _ => n - (intOf i).toNat)
  case atStart => exact ⟨0, by omega, rfl, rfl, HR5.out, HO5.out⟩
  case round =>
    clear HR5 HO5
    obtain ⟨k, hk, rfl, rfl, hra, hro⟩ := hrel
    have HRA := hide hra
    have HRO := hide hro
    clear hra hro
    by_cases hlt : k < n
    · have hc := (cell_of_block ((HRA.out.2.2.block _ hgl).trans HG.out) k).trans (badC_at n L k hlt)
      have HHK := hide (HH.out k hlt)
      have HNX := hide (badL_len_next L k _ rfl)
      have hfind := badL_find L n k hlt
      have hle := Nat.le_trans (badL_le L k) (Nat.le_trans hk hn)
      cases hb : hasB L k
      · rw [hb] at hc HHK HNX
        clear hfind
        generalize (badL L k).length = m at *
        go_wp2_with (first | ((with_reducible show wpList _ _ _ _ _ wr); refine wpList_load_row rfl 26 (.tmp 3) rfl w.heap.size rfl 26 C (0, 0) _ HRA.out.1 Try.underlying26 rfl HIC.out ?_))
        refine (HHK.out _).mono ?_
        rintro e w6 ⟨rfl, hb6⟩
        have HR6 := hide (HRA.out.kept hb6)
        have HO6 := hide (HRO.out.kept hb6)
        clear hb6 HRA HRO
        go_wp2_with fail
        go_roundw
        case rel => exact ⟨k + 1, by omega, by go_num, by rw [HNX.out]; rfl, HR6.out, HO6.out⟩
        case measure => simp [intOf]; omega
      · rw [hb] at hc HHK HNX
        obtain ⟨hm, hz⟩ := hfind hb
        have HZ := hide hz
        have hll := HLL.out
        clear hz hfind
        generalize (badL L k).length = m at *
        generalize badL L n = BL at *
        go_wp2_with (first | ((with_reducible show wpList _ _ _ _ _ wr); refine wpList_load_row rfl 26 (.tmp 3) rfl w.heap.size rfl 26 C (0, 0) _ HRA.out.1 Try.underlying26 rfl HIC.out ?_))
        refine (HHK.out _).mono ?_
        rintro e w6 ⟨rfl, hb6⟩
        have HR6 := hide (HRA.out.kept hb6)
        have HO6 := hide (HRO.out.kept hb6)
        obtain ⟨p, rfl, pl, q⟩ := HO6.out m hm
        rw [HZ.out] at q
        clear hb6 HRA HRO
        have hmI : (m : Int) < (BL.length : Int) := by omega
        go_wp2_with fail
        go_roundw
        case rel => exact ⟨k + 1, by omega, by go_num, by rw [HNX.out]; rfl, HR6.out, HO6.out⟩
        case measure => simp [intOf]; omega
    · obtain rfl : k = n := by omega
      go_wp2_with fail
      go_ret
      exact ⟨rfl, HRA.out.2.2⟩
end Go.Proofs.Ytfphkldpjfackaa
