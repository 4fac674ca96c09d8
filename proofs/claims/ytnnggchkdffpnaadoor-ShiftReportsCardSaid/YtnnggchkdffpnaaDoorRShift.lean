/-
  Layer 26, the document's calls: Till; the law's call of.
-/
import Derived.Test.YtnnggchkdffpnaaDoorShift4
--import Derived.Test.Zdbg
namespace Go.Proofs.YtnnggchkdffpnaaDoor
set_option linter.unusedSimpArgs false
set_option linter.unusedVariables false
open Go.RowKit Go.WideShapes Go.ChangeShapes Go.ChangeAt Go.Deep

theorem half_bd (a : Int) (ha : inR a) : a = 1000000000 * a.tdiv 1000000000 + a.tmod 1000000000 ∧ -9300000000 ≤ a.tdiv 1000000000 ∧ a.tdiv 1000000000 ≤ 9300000000 ∧ -1000000000 ≤ a.tmod 1000000000 ∧ a.tmod 1000000000 ≤ 1000000000 := by
  obtain ⟨h1, h2, h3, h4, h5⟩ := half_facts a
  unfold inR at ha
  omega
def sumT (s v r i o : Int) : Nat → Int
  | 0 => 0
  | 1 => s
  | 2 => s - v
  | 3 => s - v - r
  | 4 => s - v - r + i
  | _ + 5 => s - v - r + i - o
set_option maxRecDepth 100000 in
theorem of_any (c s v r i o : Int) (w : World) : Calls Tryd.prog 12 #[.agg (totA c s v r i o)] w fun e w' => e = .returned (.agg (totA c s v r i o)) ∧ Below w.heap.size w w' := by
  unfold totA
  go_enter Tryd.func12, Tryd.ntmps12
  go_wp2_with fail
  exact bodyPost_ret (results_cell_row (P := Tryd.prog) rfl _ _ (w.heap.size + 1) 47 #[.int .i64 c, .int .i64 s, .int .i64 v, .int .i64 r, .int .i64 i, .int .i64 o] (0, 0) _ rfl (by exact heap_alloc2_new w _ _) Tryd.underlying47 rfl (by kernel_rfl)) rfl ⟨rfl, by go_grown⟩
set_option maxRecDepth 100000 in
set_option maxHeartbeats 2000000 in
theorem rtill_any (c s v r i o : Int) (hs : inR s) (hv : inR v) (hr : inR r) (hi : inR i) (ho : inR o) (w : World) :
    Calls Tryd.prog 13 #[.agg (totA c s v r i o)] w fun e w' => e = .returned (.tuple #[.int .i64 (sumV (s + i - v - r - o)), .int .i64 (sumE (s + i - v - r - o))]) ∧ Below w.heap.size w w' := by
  have HRs := hide hs
  have HRv := hide hv
  have HRr := hide hr
  have HRi := hide hi
  have HRo := hide ho
  clear hs hv hr hi ho
  unfold totA
  go_enter Tryd.func13, Tryd.ntmps13
  go_wp2_with fail
  have hal1 := (Below.refl w.heap.size w).alloc (Nat.le_refl _) (.cells #[.int .i64 c, .int .i64 s, .int .i64 v, .int .i64 r, .int .i64 i, .int .i64 o] 47)
  have hal := hal1.alloc (by simp) (.cells #[.int .i64 0, .int .i64 0] 68)
  have hn1 := heap_new w (.cells #[.int .i64 c, .int .i64 s, .int .i64 v, .int .i64 r, .int .i64 i, .int .i64 o] 47)
  have hn2 := heap_new (w.alloc (.cells #[.int .i64 c, .int .i64 s, .int .i64 v, .int .i64 r, .int .i64 i, .int .i64 o] 47)) (.cells #[.int .i64 0, .int .i64 0] 68)
  have hn1 := heap_old (w.alloc (.cells #[.int .i64 c, .int .i64 s, .int .i64 v, .int .i64 r, .int .i64 i, .int .i64 o] 47)) (.cells #[.int .i64 0, .int .i64 0] 68) _ (heap_lt hn1) |>.trans hn1
  rw [show (w.alloc (.cells #[.int .i64 c, .int .i64 s, .int .i64 v, .int .i64 r, .int .i64 i, .int .i64 o] 47)).heap.size = w.heap.size + 1 by simp] at hn2
  generalize (w.alloc (.cells #[.int .i64 c, .int .i64 s, .int .i64 v, .int .i64 r, .int .i64 i, .int .i64 o] 47)).alloc (.cells #[.int .i64 0, .int .i64 0] 68) = w1 at *
  have T0 := hide hn1
  have H0 := hide hn2
  have B0 := hide hal
  have HNE := hide (show w.heap.size + 1 ≠ w.heap.size from by omega)
  have HBH := hide (show w.heap.size ≤ w.heap.size + 1 from by omega)
  clear hal1 hal hn1 hn2
  generalize htb : w.heap.size = tb at T0 H0 HNE HBH ⊢
  generalize hhb : tb + 1 = hb0 at H0 HNE HBH ⊢
  have B0 := hide (show Below tb w w1 by rw [← htb]; exact B0.out)
  have HTB := hide htb
  have HTL := hide (show tb ≤ w.heap.size from by omega)
  clear htb hhb
  go_loopw [5] (fun z W => ∃ (k : Nat) (h0 h1 : Int), k ≤ 5 ∧ z = .int .i64 k ∧ W.heap[hb0]? = some (.cells #[.int .i64 h0, .int .i64 h1] 68 (0, 0)) ∧ W.heap[tb]? = some (.cells #[.int .i64 c, .int .i64 s, .int .i64 v, .int .i64 r, .int .i64 i, .int .i64 o] 47 (0, 0)) ∧ sumT s v r i o k = 1000000000 * h0 + h1 ∧ (-9300000000 * (k : Int) ≤ h0 ∧ h0 ≤ 9300000000 * (k : Int)) ∧ (-1000000000 * (k : Int) ≤ h1 ∧ h1 ≤ 1000000000 * (k : Int)) ∧ Below tb w W) (fun z _ => 5 - (intOf z).toNat)
  case atStart => exact ⟨0, 0, 0, by omega, rfl, H0.out, T0.out, by simp [sumT], by simp, by simp, B0.out⟩
  case round =>
    clear T0 H0 B0
    obtain ⟨k, h0, h1, hk, rfl, hh, ht, hsum, hb1, hb2, hb⟩ := hrel
    have HH := hide hh
    have TT := hide ht
    have BL := hide hb
    clear hh ht hb
    by_cases hlt : k < 5
    · have h5 : k = 0 ∨ k = 1 ∨ k = 2 ∨ k = 3 ∨ k = 4 := by omega
      rcases h5 with rfl | rfl | rfl | rfl | rfl <;> simp only [sumT] at hsum
      · -- 0
        obtain ⟨d, hd⟩ : ∃ d, (s : Int).tdiv 1000000000 = d := ⟨_, rfl⟩
        obtain ⟨m, hm⟩ : ∃ m, (s : Int).tmod 1000000000 = m := ⟨_, rfl⟩
        have hf := half_bd s HRs.out
        rw [hd, hm] at hf
        obtain ⟨e1, e2, e3, e4, e5⟩ := hf
        have HE1 := hide e1
        have HSM := hide hsum
        clear e1 hsum
        try rw [show ((0 : Nat) : Int) = 0 from rfl]
        have HHF := hide (fun W => half_any s HRs.out W)
        rw [hd, hm] at HHF
        clear hd hm
        have hw0 : IntKind.i64.wrap (h0 + d) = h0 + d := by rw [IntKind.wrap_i64]; omega
        have hw1 : IntKind.i64.wrap (h1 + m) = h1 + m := by rw [IntKind.wrap_i64]; omega
        obtain ⟨⟨t0, t1, t2, t3, t4, t5⟩, -⟩ := six_facts TT.out
        go_wp2_with fail
        skip
        refine (HHF.out _).mono ?_
        rintro e w2 ⟨rfl, hb⟩
        have TT2 := hide ((hb.block _ (heap_lt TT.out)).trans TT.out)
        have HH2 := hide ((hb.block _ (heap_lt HH.out)).trans HH.out)
        have B2 := hide (BL.out.trans (hb.mono (Nat.le_trans HTL.out BL.out.size)))
        clear hb t0 t1 t2 t3 t4 t5 TT HH BL HHF
        have hhl := heap_lt HH2.out
        have g0 : w2.cell? ⟨hb0, 0, none⟩ = some (.int .i64 h0) := cell_of_block HH2.out 0
        have g1 : w2.cell? ⟨hb0, 1, none⟩ = some (.int .i64 h1) := cell_of_block HH2.out 1
        have f0 : w2.frozen? ⟨hb0, 0, none⟩ = false := frozen_of_block HH2.out 0
        have f1 : w2.frozen? ⟨hb0, 1, none⟩ = false := frozen_of_block HH2.out 1
        go_wp2_with fail
        clear g0 g1 f0 f1 hhl
        have HH4 := hide (show (w2.setCell ⟨hb0, 0, none⟩ (.int .i64 (h0 + d))).heap[hb0]? = some (.cells #[.int .i64 (h0 + d), .int .i64 h1] 68 (0, 0)) from block_setCell HH2.out 0 (.int .i64 (h0 + d)))
        have TT4 := hide ((block_setCell_other HNE.out 0 (.int .i64 (h0 + d))).trans TT2.out)
        have B4 := hide (B2.out.setCell (p := ⟨hb0, 0, none⟩) HBH.out (.int .i64 (h0 + d)))
        generalize w2.setCell ⟨hb0, 0, none⟩ (.int .i64 (h0 + d)) = w4 at *
        have HH5 := hide (show (w4.setCell ⟨hb0, 1, none⟩ (.int .i64 (h1 + m))).heap[hb0]? = some (.cells #[.int .i64 (h0 + d), .int .i64 (h1 + m)] 68 (0, 0)) from block_setCell HH4.out 1 (.int .i64 (h1 + m)))
        have TT5 := hide ((block_setCell_other HNE.out 1 (.int .i64 (h1 + m))).trans TT4.out)
        have B5 := hide (B4.out.setCell (p := ⟨hb0, 1, none⟩) HBH.out (.int .i64 (h1 + m)))
        generalize w4.setCell ⟨hb0, 1, none⟩ (.int .i64 (h1 + m)) = w5 at *
        have hal := (Below.refl w5.heap.size w5).alloc (Nat.le_refl _) (.cells #[.int .i64 d, .int .i64 m] 68)
        have TT6 := hide ((hal.block _ (heap_lt TT5.out)).trans TT5.out)
        have HH6 := hide ((hal.block _ (heap_lt HH5.out)).trans HH5.out)
        have B6 := hide (B5.out.trans (hal.mono (Nat.le_trans HTL.out B5.out.size)))
        clear hal TT5 HH5 B5
        go_roundw
        case rel => exact ⟨1, h0 + d, h1 + m, by omega, rfl, HH6.out, TT6.out, by have e1 := HE1.out; have hsum := HSM.out; simp only [sumT]; omega, by omega, by omega, B6.out⟩
        case measure => simp [intOf]
      · -- 1
        obtain ⟨d, hd⟩ : ∃ d, (v : Int).tdiv 1000000000 = d := ⟨_, rfl⟩
        obtain ⟨m, hm⟩ : ∃ m, (v : Int).tmod 1000000000 = m := ⟨_, rfl⟩
        have hf := half_bd v HRv.out
        rw [hd, hm] at hf
        obtain ⟨e1, e2, e3, e4, e5⟩ := hf
        have HE1 := hide e1
        have HSM := hide hsum
        clear e1 hsum
        try rw [show ((1 : Nat) : Int) = 1 from rfl]
        have HHF := hide (fun W => half_any v HRv.out W)
        rw [hd, hm] at HHF
        clear hd hm
        have hw0 : IntKind.i64.wrap (h0 - d) = h0 - d := by rw [IntKind.wrap_i64]; omega
        have hw1 : IntKind.i64.wrap (h1 - m) = h1 - m := by rw [IntKind.wrap_i64]; omega
        obtain ⟨⟨t0, t1, t2, t3, t4, t5⟩, -⟩ := six_facts TT.out
        go_wp2_with fail
        skip
        refine (HHF.out _).mono ?_
        rintro e w2 ⟨rfl, hb⟩
        have TT2 := hide ((hb.block _ (heap_lt TT.out)).trans TT.out)
        have HH2 := hide ((hb.block _ (heap_lt HH.out)).trans HH.out)
        have B2 := hide (BL.out.trans (hb.mono (Nat.le_trans HTL.out BL.out.size)))
        clear hb t0 t1 t2 t3 t4 t5 TT HH BL HHF
        have hhl := heap_lt HH2.out
        have g0 : w2.cell? ⟨hb0, 0, none⟩ = some (.int .i64 h0) := cell_of_block HH2.out 0
        have g1 : w2.cell? ⟨hb0, 1, none⟩ = some (.int .i64 h1) := cell_of_block HH2.out 1
        have f0 : w2.frozen? ⟨hb0, 0, none⟩ = false := frozen_of_block HH2.out 0
        have f1 : w2.frozen? ⟨hb0, 1, none⟩ = false := frozen_of_block HH2.out 1
        go_wp2_with fail
        clear g0 g1 f0 f1 hhl
        have HH4 := hide (show (w2.setCell ⟨hb0, 0, none⟩ (.int .i64 (h0 - d))).heap[hb0]? = some (.cells #[.int .i64 (h0 - d), .int .i64 h1] 68 (0, 0)) from block_setCell HH2.out 0 (.int .i64 (h0 - d)))
        have TT4 := hide ((block_setCell_other HNE.out 0 (.int .i64 (h0 - d))).trans TT2.out)
        have B4 := hide (B2.out.setCell (p := ⟨hb0, 0, none⟩) HBH.out (.int .i64 (h0 - d)))
        generalize w2.setCell ⟨hb0, 0, none⟩ (.int .i64 (h0 - d)) = w4 at *
        have HH5 := hide (show (w4.setCell ⟨hb0, 1, none⟩ (.int .i64 (h1 - m))).heap[hb0]? = some (.cells #[.int .i64 (h0 - d), .int .i64 (h1 - m)] 68 (0, 0)) from block_setCell HH4.out 1 (.int .i64 (h1 - m)))
        have TT5 := hide ((block_setCell_other HNE.out 1 (.int .i64 (h1 - m))).trans TT4.out)
        have B5 := hide (B4.out.setCell (p := ⟨hb0, 1, none⟩) HBH.out (.int .i64 (h1 - m)))
        generalize w4.setCell ⟨hb0, 1, none⟩ (.int .i64 (h1 - m)) = w5 at *
        have hal := (Below.refl w5.heap.size w5).alloc (Nat.le_refl _) (.cells #[.int .i64 d, .int .i64 m] 68)
        have TT6 := hide ((hal.block _ (heap_lt TT5.out)).trans TT5.out)
        have HH6 := hide ((hal.block _ (heap_lt HH5.out)).trans HH5.out)
        have B6 := hide (B5.out.trans (hal.mono (Nat.le_trans HTL.out B5.out.size)))
        clear hal TT5 HH5 B5
        go_roundw
        case rel => exact ⟨2, h0 - d, h1 - m, by omega, rfl, HH6.out, TT6.out, by have e1 := HE1.out; have hsum := HSM.out; simp only [sumT]; omega, by omega, by omega, B6.out⟩
        case measure => simp [intOf]
      · -- 2
        obtain ⟨d, hd⟩ : ∃ d, (r : Int).tdiv 1000000000 = d := ⟨_, rfl⟩
        obtain ⟨m, hm⟩ : ∃ m, (r : Int).tmod 1000000000 = m := ⟨_, rfl⟩
        have hf := half_bd r HRr.out
        rw [hd, hm] at hf
        obtain ⟨e1, e2, e3, e4, e5⟩ := hf
        have HE1 := hide e1
        have HSM := hide hsum
        clear e1 hsum
        try rw [show ((2 : Nat) : Int) = 2 from rfl]
        have HHF := hide (fun W => half_any r HRr.out W)
        rw [hd, hm] at HHF
        clear hd hm
        have hw0 : IntKind.i64.wrap (h0 - d) = h0 - d := by rw [IntKind.wrap_i64]; omega
        have hw1 : IntKind.i64.wrap (h1 - m) = h1 - m := by rw [IntKind.wrap_i64]; omega
        obtain ⟨⟨t0, t1, t2, t3, t4, t5⟩, -⟩ := six_facts TT.out
        go_wp2_with fail
        skip
        refine (HHF.out _).mono ?_
        rintro e w2 ⟨rfl, hb⟩
        have TT2 := hide ((hb.block _ (heap_lt TT.out)).trans TT.out)
        have HH2 := hide ((hb.block _ (heap_lt HH.out)).trans HH.out)
        have B2 := hide (BL.out.trans (hb.mono (Nat.le_trans HTL.out BL.out.size)))
        clear hb t0 t1 t2 t3 t4 t5 TT HH BL HHF
        have hhl := heap_lt HH2.out
        have g0 : w2.cell? ⟨hb0, 0, none⟩ = some (.int .i64 h0) := cell_of_block HH2.out 0
        have g1 : w2.cell? ⟨hb0, 1, none⟩ = some (.int .i64 h1) := cell_of_block HH2.out 1
        have f0 : w2.frozen? ⟨hb0, 0, none⟩ = false := frozen_of_block HH2.out 0
        have f1 : w2.frozen? ⟨hb0, 1, none⟩ = false := frozen_of_block HH2.out 1
        go_wp2_with fail
        clear g0 g1 f0 f1 hhl
        have HH4 := hide (show (w2.setCell ⟨hb0, 0, none⟩ (.int .i64 (h0 - d))).heap[hb0]? = some (.cells #[.int .i64 (h0 - d), .int .i64 h1] 68 (0, 0)) from block_setCell HH2.out 0 (.int .i64 (h0 - d)))
        have TT4 := hide ((block_setCell_other HNE.out 0 (.int .i64 (h0 - d))).trans TT2.out)
        have B4 := hide (B2.out.setCell (p := ⟨hb0, 0, none⟩) HBH.out (.int .i64 (h0 - d)))
        generalize w2.setCell ⟨hb0, 0, none⟩ (.int .i64 (h0 - d)) = w4 at *
        have HH5 := hide (show (w4.setCell ⟨hb0, 1, none⟩ (.int .i64 (h1 - m))).heap[hb0]? = some (.cells #[.int .i64 (h0 - d), .int .i64 (h1 - m)] 68 (0, 0)) from block_setCell HH4.out 1 (.int .i64 (h1 - m)))
        have TT5 := hide ((block_setCell_other HNE.out 1 (.int .i64 (h1 - m))).trans TT4.out)
        have B5 := hide (B4.out.setCell (p := ⟨hb0, 1, none⟩) HBH.out (.int .i64 (h1 - m)))
        generalize w4.setCell ⟨hb0, 1, none⟩ (.int .i64 (h1 - m)) = w5 at *
        have hal := (Below.refl w5.heap.size w5).alloc (Nat.le_refl _) (.cells #[.int .i64 d, .int .i64 m] 68)
        have TT6 := hide ((hal.block _ (heap_lt TT5.out)).trans TT5.out)
        have HH6 := hide ((hal.block _ (heap_lt HH5.out)).trans HH5.out)
        have B6 := hide (B5.out.trans (hal.mono (Nat.le_trans HTL.out B5.out.size)))
        clear hal TT5 HH5 B5
        go_roundw
        case rel => exact ⟨3, h0 - d, h1 - m, by omega, rfl, HH6.out, TT6.out, by have e1 := HE1.out; have hsum := HSM.out; simp only [sumT]; omega, by omega, by omega, B6.out⟩
        case measure => simp [intOf]
      · -- 3
        obtain ⟨d, hd⟩ : ∃ d, (i : Int).tdiv 1000000000 = d := ⟨_, rfl⟩
        obtain ⟨m, hm⟩ : ∃ m, (i : Int).tmod 1000000000 = m := ⟨_, rfl⟩
        have hf := half_bd i HRi.out
        rw [hd, hm] at hf
        obtain ⟨e1, e2, e3, e4, e5⟩ := hf
        have HE1 := hide e1
        have HSM := hide hsum
        clear e1 hsum
        try rw [show ((3 : Nat) : Int) = 3 from rfl]
        have HHF := hide (fun W => half_any i HRi.out W)
        rw [hd, hm] at HHF
        clear hd hm
        have hw0 : IntKind.i64.wrap (h0 + d) = h0 + d := by rw [IntKind.wrap_i64]; omega
        have hw1 : IntKind.i64.wrap (h1 + m) = h1 + m := by rw [IntKind.wrap_i64]; omega
        obtain ⟨⟨t0, t1, t2, t3, t4, t5⟩, -⟩ := six_facts TT.out
        go_wp2_with fail
        skip
        refine (HHF.out _).mono ?_
        rintro e w2 ⟨rfl, hb⟩
        have TT2 := hide ((hb.block _ (heap_lt TT.out)).trans TT.out)
        have HH2 := hide ((hb.block _ (heap_lt HH.out)).trans HH.out)
        have B2 := hide (BL.out.trans (hb.mono (Nat.le_trans HTL.out BL.out.size)))
        clear hb t0 t1 t2 t3 t4 t5 TT HH BL HHF
        have hhl := heap_lt HH2.out
        have g0 : w2.cell? ⟨hb0, 0, none⟩ = some (.int .i64 h0) := cell_of_block HH2.out 0
        have g1 : w2.cell? ⟨hb0, 1, none⟩ = some (.int .i64 h1) := cell_of_block HH2.out 1
        have f0 : w2.frozen? ⟨hb0, 0, none⟩ = false := frozen_of_block HH2.out 0
        have f1 : w2.frozen? ⟨hb0, 1, none⟩ = false := frozen_of_block HH2.out 1
        go_wp2_with fail
        clear g0 g1 f0 f1 hhl
        have HH4 := hide (show (w2.setCell ⟨hb0, 0, none⟩ (.int .i64 (h0 + d))).heap[hb0]? = some (.cells #[.int .i64 (h0 + d), .int .i64 h1] 68 (0, 0)) from block_setCell HH2.out 0 (.int .i64 (h0 + d)))
        have TT4 := hide ((block_setCell_other HNE.out 0 (.int .i64 (h0 + d))).trans TT2.out)
        have B4 := hide (B2.out.setCell (p := ⟨hb0, 0, none⟩) HBH.out (.int .i64 (h0 + d)))
        generalize w2.setCell ⟨hb0, 0, none⟩ (.int .i64 (h0 + d)) = w4 at *
        have HH5 := hide (show (w4.setCell ⟨hb0, 1, none⟩ (.int .i64 (h1 + m))).heap[hb0]? = some (.cells #[.int .i64 (h0 + d), .int .i64 (h1 + m)] 68 (0, 0)) from block_setCell HH4.out 1 (.int .i64 (h1 + m)))
        have TT5 := hide ((block_setCell_other HNE.out 1 (.int .i64 (h1 + m))).trans TT4.out)
        have B5 := hide (B4.out.setCell (p := ⟨hb0, 1, none⟩) HBH.out (.int .i64 (h1 + m)))
        generalize w4.setCell ⟨hb0, 1, none⟩ (.int .i64 (h1 + m)) = w5 at *
        have hal := (Below.refl w5.heap.size w5).alloc (Nat.le_refl _) (.cells #[.int .i64 d, .int .i64 m] 68)
        have TT6 := hide ((hal.block _ (heap_lt TT5.out)).trans TT5.out)
        have HH6 := hide ((hal.block _ (heap_lt HH5.out)).trans HH5.out)
        have B6 := hide (B5.out.trans (hal.mono (Nat.le_trans HTL.out B5.out.size)))
        clear hal TT5 HH5 B5
        go_roundw
        case rel => exact ⟨4, h0 + d, h1 + m, by omega, rfl, HH6.out, TT6.out, by have e1 := HE1.out; have hsum := HSM.out; simp only [sumT]; omega, by omega, by omega, B6.out⟩
        case measure => simp [intOf]
      · -- 4
        obtain ⟨d, hd⟩ : ∃ d, (o : Int).tdiv 1000000000 = d := ⟨_, rfl⟩
        obtain ⟨m, hm⟩ : ∃ m, (o : Int).tmod 1000000000 = m := ⟨_, rfl⟩
        have hf := half_bd o HRo.out
        rw [hd, hm] at hf
        obtain ⟨e1, e2, e3, e4, e5⟩ := hf
        have HE1 := hide e1
        have HSM := hide hsum
        clear e1 hsum
        try rw [show ((4 : Nat) : Int) = 4 from rfl]
        have HHF := hide (fun W => half_any o HRo.out W)
        rw [hd, hm] at HHF
        clear hd hm
        have hw0 : IntKind.i64.wrap (h0 - d) = h0 - d := by rw [IntKind.wrap_i64]; omega
        have hw1 : IntKind.i64.wrap (h1 - m) = h1 - m := by rw [IntKind.wrap_i64]; omega
        obtain ⟨⟨t0, t1, t2, t3, t4, t5⟩, -⟩ := six_facts TT.out
        go_wp2_with fail
        skip
        refine (HHF.out _).mono ?_
        rintro e w2 ⟨rfl, hb⟩
        have TT2 := hide ((hb.block _ (heap_lt TT.out)).trans TT.out)
        have HH2 := hide ((hb.block _ (heap_lt HH.out)).trans HH.out)
        have B2 := hide (BL.out.trans (hb.mono (Nat.le_trans HTL.out BL.out.size)))
        clear hb t0 t1 t2 t3 t4 t5 TT HH BL HHF
        have hhl := heap_lt HH2.out
        have g0 : w2.cell? ⟨hb0, 0, none⟩ = some (.int .i64 h0) := cell_of_block HH2.out 0
        have g1 : w2.cell? ⟨hb0, 1, none⟩ = some (.int .i64 h1) := cell_of_block HH2.out 1
        have f0 : w2.frozen? ⟨hb0, 0, none⟩ = false := frozen_of_block HH2.out 0
        have f1 : w2.frozen? ⟨hb0, 1, none⟩ = false := frozen_of_block HH2.out 1
        go_wp2_with fail
        clear g0 g1 f0 f1 hhl
        have HH4 := hide (show (w2.setCell ⟨hb0, 0, none⟩ (.int .i64 (h0 - d))).heap[hb0]? = some (.cells #[.int .i64 (h0 - d), .int .i64 h1] 68 (0, 0)) from block_setCell HH2.out 0 (.int .i64 (h0 - d)))
        have TT4 := hide ((block_setCell_other HNE.out 0 (.int .i64 (h0 - d))).trans TT2.out)
        have B4 := hide (B2.out.setCell (p := ⟨hb0, 0, none⟩) HBH.out (.int .i64 (h0 - d)))
        generalize w2.setCell ⟨hb0, 0, none⟩ (.int .i64 (h0 - d)) = w4 at *
        have HH5 := hide (show (w4.setCell ⟨hb0, 1, none⟩ (.int .i64 (h1 - m))).heap[hb0]? = some (.cells #[.int .i64 (h0 - d), .int .i64 (h1 - m)] 68 (0, 0)) from block_setCell HH4.out 1 (.int .i64 (h1 - m)))
        have TT5 := hide ((block_setCell_other HNE.out 1 (.int .i64 (h1 - m))).trans TT4.out)
        have B5 := hide (B4.out.setCell (p := ⟨hb0, 1, none⟩) HBH.out (.int .i64 (h1 - m)))
        generalize w4.setCell ⟨hb0, 1, none⟩ (.int .i64 (h1 - m)) = w5 at *
        have hal := (Below.refl w5.heap.size w5).alloc (Nat.le_refl _) (.cells #[.int .i64 d, .int .i64 m] 68)
        have TT6 := hide ((hal.block _ (heap_lt TT5.out)).trans TT5.out)
        have HH6 := hide ((hal.block _ (heap_lt HH5.out)).trans HH5.out)
        have B6 := hide (B5.out.trans (hal.mono (Nat.le_trans HTL.out B5.out.size)))
        clear hal TT5 HH5 B5
        go_roundw
        case rel => exact ⟨5, h0 - d, h1 - m, by omega, rfl, HH6.out, TT6.out, by have e1 := HE1.out; have hsum := HSM.out; simp only [sumT]; omega, by omega, by omega, B6.out⟩
        case measure => simp [intOf]
    · obtain rfl : k = 5 := by omega
      rw [show ((5 : Nat) : Int) = 5 from rfl]
      simp only [sumT] at hsum
      have HBK := hide (fun W => back_any h0 h1 (by omega) (by omega) (s + i - v - r - o) (by omega) W)
      clear hsum
      have g0 : wr.cell? ⟨hb0, 0, none⟩ = some (.int .i64 h0) := cell_of_block HH.out 0
      have g1 : wr.cell? ⟨hb0, 1, none⟩ = some (.int .i64 h1) := cell_of_block HH.out 1
      go_wp2_with fail
      refine (HBK.out wr).mono ?_
      rintro e w2 ⟨rfl, hb⟩
      have B2 := hide (BL.out.trans (hb.mono (Nat.le_trans HTL.out BL.out.size)))
      clear hb
      go_wp2_with fail
      go_ret2
      exact ⟨rfl, by rw [HTB.out]; exact B2.out⟩
end Go.Proofs.YtnnggchkdffpnaaDoor
