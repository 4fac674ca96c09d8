/-
  Layer 23: wakes; postings that come in.
-/
import Derived.Test.YtjnfmgbbhiklaaaBooks6
import Derived.Test.YtjnfmgbbhiklaaaKitY
namespace Go.Proofs.Ytjnfmgbbhiklaaa
set_option linter.unusedSimpArgs false
set_option linter.unusedVariables false
open Go.RowKit Go.WideShapes Go.ChangeShapes Go.ChangeAt Go.Deep
theorem LnIn.only {w w' : World} {q : Nat} {a : Option Addr} {L : List LnM} (h : LnIn w a L) (ho : Only q w w') (hq : ∀ c t fz, w.heap[q]? ≠ some (.cells c t fz)) : LnIn w' a L := fun i hi => by
  obtain ⟨b, off, ha, hb, c0, c1⟩ := h i hi
  have hbq : b ≠ q := fun e => by
    subst e
    unfold World.cell? at c0
    cases hh : w.heap[b]? with
    | none => rw [hh] at c0; cases c0
    | some o =>
      rw [hh] at c0
      cases o with
      | cells c t fz => exact hq _ _ _ hh
      | _ => simp at c0
  exact ⟨b, off, ha, Nat.lt_of_lt_of_le hb ho.size, (only_cell ho hb hbq).trans c0, (only_cell ho hb hbq).trans c1⟩
def wkL : List LnM := [⟨1, 5⟩, ⟨2, -5⟩]
theorem wk_in {W : World} {g : Nat} (h : W.heap[g]? = some (.cells #[.int .i64 1, .int .i64 5, .int .i64 2, .int .i64 (-5)] 56 (0, 0))) : LnIn W (some ⟨g, 0, none⟩) wkL := fun i hi => by
  have hl : wkL.length = 2 := rfl
  have h0 : i = 0 ∨ i = 1 := by omega
  rcases h0 with rfl | rfl
  · exact ⟨g, 0, rfl, heap_lt h, (cell_of_block h 0).trans rfl, (cell_of_block h 1).trans rfl⟩
  · exact ⟨g, 0, rfl, heap_lt h, (cell_of_block h 2).trans rfl, (cell_of_block h 3).trans rfl⟩
theorem wkL_ok : ∀ x ∈ wkL, LnOk x := by
  intro x hx
  simp [wkL] at hx
  rcases hx with rfl | rfl <;> exact ⟨by unfold inR; decide, by unfold inR; decide⟩
set_option maxRecDepth 100000 in
set_option maxHeartbeats 1000000 in
theorem wakes23 (w : World) : Calls Try.prog 6 #[] w fun e w' => e = .returned (.bool true) ∧ Below w.heap.size w w' := by
  go_enter Try.func6, Try.ntmps6
  go_wp2_with fail
  refine (bkNew w).mono ?_
  rintro e w1 ⟨p, bm, rfl, hbk, hbm, hp, hb⟩
  have BK1 := hide hbk
  have HBM := hide hbm
  have B1 := hide hb
  clear hbk hbm hp hb
  go_upto_region 2 with (fail)
  have hal := (Below.refl w1.heap.size w1).alloc (Nat.le_refl _) (.cells #[.int .i64 1, .int .i64 5, .int .i64 2, .int .i64 (-5)] 56)
  have L2 := hide (wk_in (heap_new w1 (.cells #[.int .i64 1, .int .i64 5, .int .i64 2, .int .i64 (-5)] 56)))
  have BK2 := hide (BK1.out.below hal)
  have B2 := hide (B1.out.trans (hal.mono B1.out.size))
  have HA := hide (bkapply_any 0 (by omega) p bm [] wkL (by decide) wkL_ok (some ⟨w1.heap.size, 0, none⟩) 2 _ L2.out BK2.out)
  rw [show wkL.length = 2 from rfl] at HA
  clear hal BK1 B1
  go_wp2_with fail
  refine HA.out.mono ?_
  rintro e w3 ⟨rfl, hbk, ho⟩
  rw [show appE [] wkL = 0 from by decide]
  rw [show nextB [] wkL = [⟨1, 5⟩, ⟨2, -5⟩] from by decide] at hbk
  have BK3 := hide hbk
  have B3 := hide (ho.below B2.out HBM.out B2.out.size)
  clear hbk ho HA BK2 L2 B2
  have HT := hide (bktrial_any _ p bm _ (by decide) w3 BK3.out)
  unfold TriIs at HT
  rw [show triD [⟨1, 5⟩, ⟨2, -5⟩] = 5 from by decide, show triC [⟨1, 5⟩, ⟨2, -5⟩] = 5 from by decide, show triE [⟨1, 5⟩, ⟨2, -5⟩] = 0 from by decide] at HT
  go_wp2_with fail
  refine HT.out.mono ?_
  rintro e w4 ⟨rfl, hb⟩
  have BK4 := hide (BK3.out.below hb)
  have B4 := hide (B3.out.trans (hb.mono B3.out.size))
  clear hb HT BK3 B3
  have HG := hide (bkBal _ p bm _ 2 (by unfold inR; omega) w4 BK4.out)
  rw [show getB [⟨1, 5⟩, ⟨2, -5⟩] 2 = -5 from by decide] at HG
  have HL := hide (bklist_any _ p bm _ (by decide) w4 BK4.out)
  go_wp2_with fail
  refine HG.out.mono ?_
  rintro e w5 ⟨rfl, rfl⟩
  go_wp2_with fail
  refine HL.out.mono ?_
  rintro e w6 ⟨a, c, rfl, -, hb⟩
  have B6 := hide (B4.out.trans (hb.mono B4.out.size))
  clear hb HL HG
  rw [show ([⟨1, 5⟩, ⟨2, -5⟩] : List LnM).length = 2 from rfl]
  go_wp2_with fail
  go_ret
  exact ⟨rfl, B6.out⟩
/-- postings that come in -/
def InLL (w : World) (a : Option Addr) (LL : List (Option Addr × Nat × List LnM)) : Prop := ∀ i, i < LL.length → ∃ b off, a = some ⟨b, off, none⟩ ∧ b < w.heap.size ∧ w.cell? ⟨b, off + i, none⟩ = some (.slice (LL.getD i (none, 0, [])).1 (LL.getD i (none, 0, [])).2.2.length (LL.getD i (none, 0, [])).2.1) ∧ LnIn w (LL.getD i (none, 0, [])).1 (LL.getD i (none, 0, [])).2.2 ∧ (LL.getD i (none, 0, [])).2.2.length ≤ (LL.getD i (none, 0, [])).2.1 ∧ (LL.getD i (none, 0, [])).2.2.length ≤ 9223372036854775807 ∧ ∀ x ∈ (LL.getD i (none, 0, [])).2.2, LnOk x
theorem InLL.below {w w' : World} {a : Option Addr} {LL : List (Option Addr × Nat × List LnM)} (h : InLL w a LL) (hb : Below w.heap.size w w') : InLL w' a LL := fun i hi => by
  obtain ⟨b, off, h1, h2, h3, h4, h5⟩ := h i hi
  exact ⟨b, off, h1, Nat.lt_of_lt_of_le h2 hb.size, cell_keep h3 h2 hb, h4.below hb, h5⟩
set_option maxRecDepth 100000 in
theorem open_post {H : Type} {enc : TypeId × Value → H} {w : World} {base : Nat} {sp : Nat → Bool} {held : Bool} {m0 : Nat} {v : Value} {y : DataW H × List MemPlace}
    (h : DataW.trod enc Try.prog w base sp held m0 27 [v] = some y) :
    ∃ (a : Option Addr) (L : List LnM) (cap : Nat), v = .slice a L.length cap ∧ L.length ≤ cap ∧ L.length ≤ 9223372036854775807 ∧ LnIn w a L ∧ ∀ x ∈ L, LnOk x := by
  obtain ⟨L, ⟨a, cap, rfl, hm, hc, _, hat⟩, hty⟩ := open_rows_in [.int .i64, .int .i64] Try.underlying27 Try.underlying54 (by kernel_rfl) (by kernel_rfl) (by decide) rfl (fun j hj => by
    have : j = 0 ∨ j = 1 := by simp at hj; omega
    rcases this with rfl | rfl <;> rfl) h
  obtain ⟨M, rfl, hM⟩ := rows_typed lnC LnOk L (fun x hx => by
    obtain ⟨hl, hcell⟩ := hty x hx
    match x, (show x.length = 2 from hl), hcell with
    | [x0, x1], _, hcell =>
      obtain ⟨k, rfl, hk⟩ := hcell 0 _ _ rfl rfl
      obtain ⟨b, rfl, hb⟩ := hcell 1 _ _ rfl rfl
      exact ⟨⟨k, b⟩, rfl, wf_i64 hk, wf_i64 hb⟩)
  refine ⟨a, M, cap, by rw [List.length_map], by simpa using hc, by unfold maxLen at hm; simpa using hm, fun i hi => ?_, hM⟩
  obtain ⟨b, off, ha, hb, hcs⟩ := hat i (by simpa using hi)
  have e := getD_map lnC M ln0 i hi
  rw [e] at hcs
  refine ⟨b, off, ha, hb, ?_, ?_⟩
  · have := hcs 0 (show 0 < 2 by decide)
    rw [Nat.add_zero] at this
    exact this
  · have := hcs 1 (show 1 < 2 by decide)
    rw [← Nat.add_assoc] at this
    exact this
set_option maxRecDepth 100000 in
theorem open_posts {H : Type} {enc : TypeId × Value → H} {w : World} {base : Nat} {sp : Nat → Bool} {held : Bool} {r : Reach} {b0 : Nat} {v : Value} {d : DataW H} {ps : List MemPlace}
    (hv : Value.okWide Try.prog w r b0 22 v) (h : DataW.Trod enc Try.prog w base sp held 22 v d ps) :
    ∃ (a : Option Addr) (LL : List (Option Addr × Nat × List LnM)) (cap : Nat), v = .slice a LL.length cap ∧ LL.length ≤ cap ∧ LL.length ≤ 9223372036854775807 ∧ InLL w a LL := by
  obtain ⟨a, cap, U, rfl, hc, hm, hat⟩ := open_ones Try.underlying22 (by kernel_rfl) hv h
  obtain ⟨LL, hLL, hp⟩ := list_of_all (α := Option Addr × Nat × List LnM) (none, 0, []) (fun i x => ∃ b off, a = some ⟨b, off, none⟩ ∧ b < w.heap.size ∧ w.cell? ⟨b, off + i, none⟩ = some (.slice x.1 x.2.2.length x.2.1) ∧ LnIn w x.1 x.2.2 ∧ x.2.2.length ≤ x.2.1 ∧ x.2.2.length ≤ 9223372036854775807 ∧ ∀ y ∈ x.2.2, LnOk y) U.length (fun i hi => by
    obtain ⟨b, off, h1, h2, h3, m0, y, h4⟩ := hat i hi
    obtain ⟨a', L, cap', hu, g1, g2, g3, g4⟩ := open_post h4
    rw [hu] at h3
    exact ⟨(a', cap', L), b, off, h1, h2, h3, g3, g1, g2, g4⟩)
  refine ⟨a, LL, cap, by rw [hLL], by omega, by unfold maxLen at hm; omega, fun i hi => ?_⟩
  exact hp i (by omega)
end Go.Proofs.Ytjnfmgbbhiklaaa
