/-
  Layer 22: wakes.
-/
import Derived.Test.YtjjldphbflbbdaaPost6
--import Derived.Test.Zdbg
namespace Go.Proofs.Ytjjldphbflbbdaa
set_option linter.unusedSimpArgs false
set_option linter.unusedVariables false
open Go.RowKit Go.WideShapes Go.ChangeShapes Go.ChangeAt Go.Deep

def wkL : List LnM := [⟨1, 500⟩, ⟨2, -500⟩]
theorem wkL_ok : ∀ x ∈ wkL, LnOk x := by
  intro x hx
  simp [wkL] at hx
  rcases hx with rfl | rfl <;> exact ⟨by unfold inR; decide, by unfold inR; decide⟩
theorem negL_ok {L : List LnM} (h : ∀ x ∈ L, LnOk x) (hl : leastIn L = false) : ∀ x ∈ negL L, LnOk x := by
  intro x hx
  unfold negL at hx
  obtain ⟨y, hy, rfl⟩ := List.mem_map.1 hx
  have h1 := h y hy
  unfold leastIn at hl
  rw [List.any_eq_false] at hl
  have h2 := hl y hy
  simp only [decide_eq_true_eq] at h2
  unfold LnOk inR negX at *
  dsimp only
  omega
theorem wk_in {W : World} {g : Nat} (h : W.heap[g]? = some (.cells #[.int .i64 1, .int .i64 500, .int .i64 2, .int .i64 (-500)] 81 (0, 0))) : LnIn W (some ⟨g, 0, none⟩) wkL := fun i hi => by
  have hl : wkL.length = 2 := rfl
  have h0 : i = 0 ∨ i = 1 := by omega
  rcases h0 with rfl | rfl
  · exact ⟨g, 0, rfl, heap_lt h, (cell_of_block h 0).trans rfl, (cell_of_block h 1).trans rfl⟩
  · exact ⟨g, 0, rfl, heap_lt h, (cell_of_block h 2).trans rfl, (cell_of_block h 3).trans rfl⟩
set_option maxRecDepth 100000 in
set_option maxHeartbeats 1000000 in
theorem wakes22 (w : World) : Calls Try.prog 17 #[] w fun e w' => e = .returned (.bool true) ∧ Below w.heap.size w w' := by
  go_enter Try.func17, Try.ntmps17
  go_wp2_with fail
  refine (accounts_any _).mono ?_
  rintro e w1 ⟨p, bm, a, c, rfl, hc, -, hb⟩
  have C1 := hide hc
  have B1 := hide hb
  clear hc hb
  go_upto_region 3 with (fail)
  have hal := (Below.refl w1.heap.size w1).alloc (Nat.le_refl _) (.cells #[.int .i64 1, .int .i64 500, .int .i64 2, .int .i64 (-500)] 81)
  have L2 := hide (wk_in (heap_new w1 (.cells #[.int .i64 1, .int .i64 500, .int .i64 2, .int .i64 (-500)] 81)))
  have C2 := hide (C1.out.below hal)
  have B2 := hide (B1.out.trans (hal.mono B1.out.size))
  clear hal C1 B1
  generalize w1.alloc (.cells #[.int .i64 1, .int .i64 500, .int .i64 2, .int .i64 (-500)] 81) = w2 at *
  generalize w1.heap.size = g at *
  have HC := hide (contra_any wkL (by decide) (fun x hx => (wkL_ok x hx).2) (some ⟨g, 0, none⟩) 2 w2 L2.out)
  rw [show wkL.length = 2 from rfl] at HC
  go_wp2_with fail
  refine HC.out.mono ?_
  rintro e w3 ⟨⟨hl, a3, c3, rfl, hcap, hin⟩ | ⟨hl, -⟩, hb⟩
  · have N3 := hide hin
    have L3 := hide (L2.out.below hb)
    have C3 := hide (C2.out.below hb)
    have B3 := hide (B2.out.trans (hb.mono B2.out.size))
    have HNK := hide (negL_ok wkL_ok hl)
    clear hin hb hl hcap L2 C2 B2 HC
    have HO := hide (pon_any 1 (negL wkL) (by decide) (fun x hx => (HNK.out x hx).2) a3 c3 w3 N3.out)
    rw [show (onL 1 (negL wkL)).sum = -500 from by decide, (sum_in (show inR (-500) by unfold inR; decide)).1, (sum_in (show inR (-500) by unfold inR; decide)).2] at HO
    rw [show wkL.length = 2 from rfl]
    rw [show (negL wkL).length = 2 from rfl] at HO
    go_wp2_with fail
    refine HO.out.mono ?_
    rintro e w4 ⟨rfl, hb⟩
    have N4 := hide (N3.out.below hb)
    have L4 := hide (L3.out.below hb)
    have C4 := hide (C3.out.below hb)
    have B4 := hide (B3.out.trans (hb.mono B3.out.size))
    clear hb N3 L3 C3 B3 HO
    have HK := hide (check_any p bm 5 wkL (by decide) wkL_ok (some ⟨g, 0, none⟩) 2 w4 L4.out C4.out)
    rw [show chkE 5 wkL = 0 from by decide, show wkL.length = 2 from rfl] at HK
    go_wp2_with fail
    refine HK.out.mono ?_
    rintro e w5 ⟨rfl, hb⟩
    have N5 := hide (N4.out.below hb)
    have L5 := hide ((L4.out.below hb).take 1)
    have C5 := hide (C4.out.below hb)
    have B5 := hide (B4.out.trans (hb.mono B4.out.size))
    clear hb N4 L4 C4 B4 HK
    have HK := hide (check_any p bm 5 (wkL.take 1) (by decide) (fun x hx => wkL_ok x (List.mem_of_mem_take hx)) (some ⟨g, 0, none⟩) 2 w5 L5.out C5.out)
    rw [show chkE 5 (wkL.take 1) = 2 from by decide, show (wkL.take 1).length = 1 from rfl] at HK
    go_wp2_with fail
    refine HK.out.mono ?_
    rintro e w6 ⟨rfl, hb⟩
    have N6 := hide (N5.out.below hb)
    have C6 := hide (C5.out.below hb)
    have B6 := hide (B5.out.trans (hb.mono B5.out.size))
    clear hb N5 L5 C5 B5 HK
    have HK := hide (check_any p bm 5 (negL wkL) (by decide) HNK.out a3 c3 w6 N6.out C6.out)
    rw [show chkE 5 (negL wkL) = 0 from by decide, show (negL wkL).length = 2 from rfl] at HK
    go_wp2_with fail
    refine HK.out.mono ?_
    rintro e w7 ⟨rfl, hb⟩
    have B7 := hide (B6.out.trans (hb.mono B6.out.size))
    clear hb N6 C6 B6 HK
    go_wp2_with fail
    go_ret
    exact ⟨rfl, B7.out⟩
  · exact absurd hl (by decide)
end Go.Proofs.Ytjjldphbflbbdaa
