/-
  Layer 16: MoveRefuses: a mover that lacks a part refuses; blocks that there are not are refused; a block that is open, live or not used is not freed.
-/
import Derived.Test.YtmcaegbggblfpaaGreatPk20
--import Derived.Test.Zdbg
namespace Go.Proofs.YtmcaegbggblfpaaGreat
set_option linter.unusedSimpArgs false
set_option linter.unusedVariables false
open Go.RowKit Go.WideShapes Go.ChangeShapes Go.ChangeAt Go.Deep W

theorem free16_any7 {k : Nat} {X Y : MvS} {N : Int} {j : Nat} {t : TgM} {td : List UInt8} (hX : HOk 8 4 32 N X) (h1 : ∀ i, i < 8 → (X.L.getD i (0, 0)).1 = 1) (h0 : X.lf = 0) (hp : PutX 8 4 32 N X Y k j t td) : (Y.op = ((7 : Nat) : Int) ∨ (Y.L.getD 7 (0, 0)).1 ≠ 2) := by
  by_cases e : k = 7
  · exact .inl (by rw [hp.op, e])
  · refine .inr ?_
    rcases hp.how with ⟨a, -⟩ | ⟨-, -, -, a, -⟩
    · omega
    · rw [a, pr_other _ k 7 (fun h => e h.symm), h1 7 (by decide)]; decide
set_option maxRecDepth 100000 in
set_option maxHeartbeats 16000000 in
theorem moveRefuses_walk (n : Int) (n0 : -9223372036854775808 ≤ n) (n1 : n ≤ 9223372036854775807) (d : Int) (d0 : 0 ≤ d) (d1 : d ≤ 255) (w : World) : Calls Tryz.prog 5 #[.int .i64 n, .int .u8 d] w fun e w' => e = .returned (.bool true) ∧ Below w.heap.size w w' := by
  have HFR := hide (fun W => fresh16 W)
  unfold Fresh16 at HFR
  have HWK := hide (fun W => wakes16 W)
  have HFU := hide (fun W => full16_any ⟨#[]⟩ (by decide) 32 (by decide) W)
  have hfz : (fullB ⟨#[]⟩ 32).size = 32 := fullB_size _ _
  obtain ⟨td, htd⟩ : ∃ td : List UInt8, td = (fullB ⟨#[]⟩ 32).data.toList := ⟨_, rfl⟩
  have htb : fullB ⟨#[]⟩ 32 = bs td := by rw [htd]; rfl
  have hl : td.length = 32 := by rw [htb] at hfz; exact hfz
  rw [htb] at HFU
  clear htd hfz htb
  have HPU0 := hide (fun B0 A W (hW : MvAt W B0 A 8 4 mvX0) => put16 mvX0_ok (by decide) (by decide) (by decide) (by decide) (.inr (by decide +kernel)) ⟨1, 0, 0, 0, 1⟩ (by unfold TgM.ok TagOk; decide) td hl W hW)
  unfold Put16 at HPU0
  dsimp only at HPU0
  obtain ⟨Xs, hX0⟩ : ∃ Xs, mvX0 = Xs := ⟨_, rfl⟩
  have HC0 := hide (show capX 4 Xs = 24 ∧ Xs.M.length = 6 ∧ Xs.lf = 0 ∧ ∀ i, i < 8 → (Xs.L.getD i (0, 0)).1 = 1 by rw [← hX0]; exact ⟨capX_new, rfl, rfl, by decide +kernel⟩)
  have HOK0 := hide (show HOk 8 4 32 0 Xs by rw [← hX0]; exact mvX0_ok)
  rw [hX0] at HFR HPU0
  clear hX0 hl
  obtain ⟨r, hr⟩ : ∃ r, d.tmod 4 = r := ⟨_, rfl⟩
  have HR := hide (show r = 0 ∨ r = 1 ∨ r = 2 ∨ r = 3 by rw [← hr, Int.tmod_eq_emod_of_nonneg d0]; omega)
  obtain ⟨B0, hB0⟩ : ∃ B0, w.heap.size = B0 := ⟨_, rfl⟩
  rw [hB0]
  go_enter Tryz.func5, Tryz.ntmps5
  go_wp2_with fail
  refine (HFR.out _).mono ?_
  rintro e w1 ⟨A, rfl, hm, hb⟩
  rw [hB0] at hm hb
  have X1 := hide hm
  have B1 := hide hb
  clear hm hb HFR hB0
  have HPU := hide (HPU0.out B0 A)
  clear HPU0
  go_upto_region 2 with (refine rw_store rfl 29 (.tmp 6) (.tmp 16) rfl w1.heap.size rfl #[.pointer (some ⟨A.d, 0, none⟩), .pointer (some ⟨A.pp, 0, none⟩), .pointer (some ⟨A.sb, 0, none⟩), .pointer (some ⟨A.mp, 0, none⟩)] rfl _ (heap_new w1 _) (by kernel_rfl) rfl (by simp [Value.oneCell']) ?_)
  have XB := hide (heap_new w1 (.cells #[.pointer none, .pointer none, .pointer none, .pointer none] 29))
  have hal := (Below.refl w1.heap.size w1).alloc (Nat.le_refl _) (.cells #[.pointer none, .pointer none, .pointer none, .pointer none] 29)
  have hbb := setRow_below (hal.trans (Below.refl _ _)) (Nat.le_refl _) hal.size (#[.pointer (some ⟨A.d, 0, none⟩), .pointer (some ⟨A.pp, 0, none⟩), .pointer (some ⟨A.sb, 0, none⟩), .pointer (some ⟨A.mp, 0, none⟩)] : Array Value)
  have M2 := hide (setRow_same (cs := (#[.pointer (some ⟨A.d, 0, none⟩), .pointer (some ⟨A.pp, 0, none⟩), .pointer (some ⟨A.sb, 0, none⟩), .pointer (some ⟨A.mp, 0, none⟩)] : Array Value)) XB.out)
  have X2 := hide (X1.out.below hbb)
  have B2 := hide (B1.out.trans (hbb.mono X1.out.size))
  clear hal hbb XB X1 B1 
  generalize (w1.alloc (.cells #[.pointer none, .pointer none, .pointer none, .pointer none] 29)).setRow w1.heap.size (#[.pointer (some ⟨A.d, 0, none⟩), .pointer (some ⟨A.pp, 0, none⟩), .pointer (some ⟨A.sb, 0, none⟩), .pointer (some ⟨A.mp, 0, none⟩)] : Array Value) = w2 at *
  generalize w1.heap.size = mb at *
  (try rw [show ∀ (a : Act) (v : Value), a.put none v = a from fun _ _ => rfl])
  go_wp2_with fail
  refine (HWK.out _).mono ?_
  rintro e w21 ⟨rfl, hb⟩
  have M21 := hide ((hb.block _ (heap_lt M2.out)).trans M2.out)
  have X21 := hide (X2.out.below hb)
  have B21 := hide (B2.out.trans (hb.mono X2.out.size))
  clear hb X2 B2 M2
  go_upto_region 5 with (first | refine rw_load rfl 29 (.tmp 6) rfl mb rfl 29 #[.pointer (some ⟨A.d, 0, none⟩), .pointer (some ⟨A.pp, 0, none⟩), .pointer (some ⟨A.sb, 0, none⟩), .pointer (some ⟨A.mp, 0, none⟩)] (0, 0) _ M21.out Tryz.underlying29 rfl (by kernel_rfl) ?_ | refine rw_store rfl 29 (.tmp 8) (.tmp 24) rfl w21.heap.size rfl #[.pointer (some ⟨A.d, 0, none⟩), .pointer (some ⟨A.pp, 0, none⟩), .pointer (some ⟨A.sb, 0, none⟩), .pointer (some ⟨A.mp, 0, none⟩)] rfl _ (heap_new w21 _) (by kernel_rfl) rfl (by simp [Value.oneCell']) ?_)
  have XB := hide (heap_new w21 (.cells #[.pointer none, .pointer none, .pointer none, .pointer none] 29))
  have hal := (Below.refl w21.heap.size w21).alloc (Nat.le_refl _) (.cells #[.pointer none, .pointer none, .pointer none, .pointer none] 29)
  have hbb := setRow_below (hal.trans (Below.refl _ _)) (Nat.le_refl _) hal.size (#[.pointer (some ⟨A.d, 0, none⟩), .pointer (some ⟨A.pp, 0, none⟩), .pointer (some ⟨A.sb, 0, none⟩), .pointer (some ⟨A.mp, 0, none⟩)] : Array Value)
  have C3 := hide (setRow_same (cs := (#[.pointer (some ⟨A.d, 0, none⟩), .pointer (some ⟨A.pp, 0, none⟩), .pointer (some ⟨A.sb, 0, none⟩), .pointer (some ⟨A.mp, 0, none⟩)] : Array Value)) XB.out)
  have M3 := hide ((hbb.block _ (heap_lt M21.out)).trans M21.out)
  have X3 := hide (X21.out.below hbb)
  have B3 := hide (B21.out.trans (hbb.mono X21.out.size))
  have HCM := hide (show w21.heap.size ≠ mb from by have := heap_lt M21.out; omega)
  have HCB := hide X21.out.size
  clear hal hbb XB X21 B21 M21
  generalize (w21.alloc (.cells #[.pointer none, .pointer none, .pointer none, .pointer none] 29)).setRow w21.heap.size (#[.pointer (some ⟨A.d, 0, none⟩), .pointer (some ⟨A.pp, 0, none⟩), .pointer (some ⟨A.sb, 0, none⟩), .pointer (some ⟨A.mp, 0, none⟩)] : Array Value) = w3 at *
  generalize w21.heap.size = cb at *
  (try rw [show ∀ (a : Act) (v : Value), a.put none v = a from fun _ _ => rfl])
  go_upto_block 0 with (fail)
  (try rw [hr])
  go_cut [] from 27 to 39 (fun W => ∃ x0 x1 x2 x3 : Option Addr, mrightB x0 x1 x2 x3 = false ∧ W.heap[cb]? = some (.cells #[.pointer x0, .pointer x1, .pointer x2, .pointer x3] 29 (0, 0)) ∧ W.heap[mb]? = some (.cells #[.pointer (some ⟨A.d, 0, none⟩), .pointer (some ⟨A.pp, 0, none⟩), .pointer (some ⟨A.sb, 0, none⟩), .pointer (some ⟨A.mp, 0, none⟩)] 29 (0, 0)) ∧ MvAt W B0 A 8 4 Xs ∧ Below B0 w W)
  case first =>
    rcases HR.out with rfl | rfl | rfl | rfl
    · have c0 := cell_of_block C3.out 0
      have f0 := frozen_of_block C3.out 0
      have KF := KeepsT.setCell (Ts := [29]) C3.out (by decide) 0 (.pointer none)
      have X4 := hide (X3.out.keepsT KF (by decide) (by decide) (by decide) (by decide) (by decide) (by decide) (by decide) (by decide) (by decide) (by decide) (by decide))
      have M4 := hide ((block_setCell_other (w := w3) (g := cb) (b := mb) HCM.out 0 (.pointer none)).trans M3.out)
      have C4 := hide (show (w3.setCell ⟨cb, 0, none⟩ (.pointer none)).heap[cb]? = some (.cells #[.pointer none, .pointer (some ⟨A.pp, 0, none⟩), .pointer (some ⟨A.sb, 0, none⟩), .pointer (some ⟨A.mp, 0, none⟩)] 29 (0, 0)) from block_setCell C3.out _ _)
      have B4 := hide (B3.out.setCell (p := ⟨cb, 0, none⟩) HCB.out (.pointer none))
      clear KF X3 M3 B3
      go_wp2_with fail
      go_meet
      exact ⟨none, (some ⟨A.pp, 0, none⟩), (some ⟨A.sb, 0, none⟩), (some ⟨A.mp, 0, none⟩), rfl, C4.out, M4.out, X4.out, B4.out⟩
    · have c1 := cell_of_block C3.out 1
      have f1 := frozen_of_block C3.out 1
      have KF := KeepsT.setCell (Ts := [29]) C3.out (by decide) 1 (.pointer none)
      have X4 := hide (X3.out.keepsT KF (by decide) (by decide) (by decide) (by decide) (by decide) (by decide) (by decide) (by decide) (by decide) (by decide) (by decide))
      have M4 := hide ((block_setCell_other (w := w3) (g := cb) (b := mb) HCM.out 1 (.pointer none)).trans M3.out)
      have C4 := hide (show (w3.setCell ⟨cb, 1, none⟩ (.pointer none)).heap[cb]? = some (.cells #[.pointer (some ⟨A.d, 0, none⟩), .pointer none, .pointer (some ⟨A.sb, 0, none⟩), .pointer (some ⟨A.mp, 0, none⟩)] 29 (0, 0)) from block_setCell C3.out _ _)
      have B4 := hide (B3.out.setCell (p := ⟨cb, 1, none⟩) HCB.out (.pointer none))
      clear KF X3 M3 B3
      go_wp2_with fail
      go_meet
      exact ⟨(some ⟨A.d, 0, none⟩), none, (some ⟨A.sb, 0, none⟩), (some ⟨A.mp, 0, none⟩), rfl, C4.out, M4.out, X4.out, B4.out⟩
    · have c2 := cell_of_block C3.out 2
      have f2 := frozen_of_block C3.out 2
      have KF := KeepsT.setCell (Ts := [29]) C3.out (by decide) 2 (.pointer none)
      have X4 := hide (X3.out.keepsT KF (by decide) (by decide) (by decide) (by decide) (by decide) (by decide) (by decide) (by decide) (by decide) (by decide) (by decide))
      have M4 := hide ((block_setCell_other (w := w3) (g := cb) (b := mb) HCM.out 2 (.pointer none)).trans M3.out)
      have C4 := hide (show (w3.setCell ⟨cb, 2, none⟩ (.pointer none)).heap[cb]? = some (.cells #[.pointer (some ⟨A.d, 0, none⟩), .pointer (some ⟨A.pp, 0, none⟩), .pointer none, .pointer (some ⟨A.mp, 0, none⟩)] 29 (0, 0)) from block_setCell C3.out _ _)
      have B4 := hide (B3.out.setCell (p := ⟨cb, 2, none⟩) HCB.out (.pointer none))
      clear KF X3 M3 B3
      go_wp2_with fail
      go_meet
      exact ⟨(some ⟨A.d, 0, none⟩), (some ⟨A.pp, 0, none⟩), none, (some ⟨A.mp, 0, none⟩), rfl, C4.out, M4.out, X4.out, B4.out⟩
    · have c3 := cell_of_block C3.out 3
      have f3 := frozen_of_block C3.out 3
      have KF := KeepsT.setCell (Ts := [29]) C3.out (by decide) 3 (.pointer none)
      have X4 := hide (X3.out.keepsT KF (by decide) (by decide) (by decide) (by decide) (by decide) (by decide) (by decide) (by decide) (by decide) (by decide) (by decide))
      have M4 := hide ((block_setCell_other (w := w3) (g := cb) (b := mb) HCM.out 3 (.pointer none)).trans M3.out)
      have C4 := hide (show (w3.setCell ⟨cb, 3, none⟩ (.pointer none)).heap[cb]? = some (.cells #[.pointer (some ⟨A.d, 0, none⟩), .pointer (some ⟨A.pp, 0, none⟩), .pointer (some ⟨A.sb, 0, none⟩), .pointer none] 29 (0, 0)) from block_setCell C3.out _ _)
      have B4 := hide (B3.out.setCell (p := ⟨cb, 3, none⟩) HCB.out (.pointer none))
      clear KF X3 M3 B3
      go_wp2_with fail
      go_meet
      exact ⟨(some ⟨A.d, 0, none⟩), (some ⟨A.pp, 0, none⟩), (some ⟨A.sb, 0, none⟩), none, rfl, C4.out, M4.out, X4.out, B4.out⟩
  case rest =>
  obtain ⟨x0, x1, x2, x3, hx, hc, hm, hs, hb⟩ := hcut
  have C4 := hide hc
  have M4 := hide hm
  have X4 := hide hs
  have B4 := hide hb
  have HRI := hide (fun W => mright_any x0 x1 x2 x3 W)
  rw [hx] at HRI
  have HCN := hide (fun W => clear16_none x0 x1 x2 x3 hx n W)
  have HFN := hide (fun W => free16_none x0 x1 x2 x3 hx n W)
  clear hc hm hs hb hx X3 M3 C3 B3 hr HR HCM HCB d0 d1
  go_wp2_with (refine rw_load rfl 29 (.tmp 8) rfl cb rfl 29 #[.pointer x0, .pointer x1, .pointer x2, .pointer x3] (0, 0) _ C4.out Tryz.underlying29 rfl (by kernel_rfl) ?_)
  refine (HRI.out _).mono ?_
  rintro e w5 ⟨rfl, hb⟩
  have C5 := hide ((hb.block _ (heap_lt C4.out)).trans C4.out)
  have M5 := hide ((hb.block _ (heap_lt M4.out)).trans M4.out)
  have X5 := hide (X4.out.below hb)
  have B5 := hide (B4.out.trans (hb.mono X4.out.size))
  clear hb X4 B4 C4 M4
  have m0 := cell_of_block C5.out 0
  have m1 := cell_of_block C5.out 1
  have m2 := cell_of_block C5.out 2
  have m3 := cell_of_block C5.out 3
  go_wp2_with fail
  refine (HCN.out _).mono ?_
  rintro e w6 ⟨rfl, hb⟩
  have C6 := hide ((hb.block _ (heap_lt C5.out)).trans C5.out)
  have M6 := hide ((hb.block _ (heap_lt M5.out)).trans M5.out)
  have X6 := hide (X5.out.below hb)
  have B6 := hide (B5.out.trans (hb.mono X5.out.size))
  clear hb X5 B5 C5 M5 m0 m1 m2 m3
  have m0 := cell_of_block C6.out 0
  have m1 := cell_of_block C6.out 1
  have m2 := cell_of_block C6.out 2
  have m3 := cell_of_block C6.out 3
  go_wp2_with fail
  refine (HFN.out _).mono ?_
  rintro e w7 ⟨rfl, hb⟩
  have C7 := hide ((hb.block _ (heap_lt C6.out)).trans C6.out)
  have M7 := hide ((hb.block _ (heap_lt M6.out)).trans M6.out)
  have X7 := hide (X6.out.below hb)
  have B7 := hide (B6.out.trans (hb.mono X6.out.size))
  clear hb X6 B6 C6 M6 m0 m1 m2 m3
  clear HRI HCN HFN
  rcases (show n < 0 ∨ 8 ≤ n ∨ (0 ≤ n ∧ n < 8) by omega) with hn | hn | ⟨hn, hn8⟩
  · have HCB := hide (fun W (hW : MvAt W B0 A 8 4 Xs) => clear16_bad HOK0.out n (.inl hn) W hW)
    have HFB := hide (fun W (hW : MvAt W B0 A 8 4 Xs) => free16_bad HOK0.out n (.inl hn) W hW)
    go_wp2_with (refine rw_load rfl 29 (.tmp 6) rfl mb rfl 29 #[.pointer (some ⟨A.d, 0, none⟩), .pointer (some ⟨A.pp, 0, none⟩), .pointer (some ⟨A.sb, 0, none⟩), .pointer (some ⟨A.mp, 0, none⟩)] (0, 0) _ M7.out Tryz.underlying29 rfl (by kernel_rfl) ?_)
    refine (HCB.out _ X7.out).mono ?_
    rintro e w8 ⟨rfl, hb⟩
    have M8 := hide ((hb.block _ (heap_lt M7.out)).trans M7.out)
    have X8 := hide (X7.out.below hb)
    have B8 := hide (B7.out.trans (hb.mono X7.out.size))
    clear hb X7 B7 M7
    have m0 := cell_of_block M8.out 0
    have m1 := cell_of_block M8.out 1
    have m2 := cell_of_block M8.out 2
    have m3 := cell_of_block M8.out 3
    go_wp2_with fail
    refine (HFB.out _ X8.out).mono ?_
    rintro e w9 ⟨rfl, hb⟩
    have M9 := hide ((hb.block _ (heap_lt M8.out)).trans M8.out)
    have X9 := hide (X8.out.below hb)
    have B9 := hide (B8.out.trans (hb.mono X8.out.size))
    clear hb X8 B8 M8
    go_wp2_with fail
    go_ret
    exact ⟨rfl, B9.out⟩
  · have HCB := hide (fun W (hW : MvAt W B0 A 8 4 Xs) => clear16_bad HOK0.out n (.inr hn) W hW)
    have HFB := hide (fun W (hW : MvAt W B0 A 8 4 Xs) => free16_bad HOK0.out n (.inr hn) W hW)
    go_wp2_with (refine rw_load rfl 29 (.tmp 6) rfl mb rfl 29 #[.pointer (some ⟨A.d, 0, none⟩), .pointer (some ⟨A.pp, 0, none⟩), .pointer (some ⟨A.sb, 0, none⟩), .pointer (some ⟨A.mp, 0, none⟩)] (0, 0) _ M7.out Tryz.underlying29 rfl (by kernel_rfl) ?_)
    refine (HCB.out _ X7.out).mono ?_
    rintro e w8 ⟨rfl, hb⟩
    have M8 := hide ((hb.block _ (heap_lt M7.out)).trans M7.out)
    have X8 := hide (X7.out.below hb)
    have B8 := hide (B7.out.trans (hb.mono X7.out.size))
    clear hb X7 B7 M7
    have m0 := cell_of_block M8.out 0
    have m1 := cell_of_block M8.out 1
    have m2 := cell_of_block M8.out 2
    have m3 := cell_of_block M8.out 3
    go_wp2_with fail
    refine (HFB.out _ X8.out).mono ?_
    rintro e w9 ⟨rfl, hb⟩
    have M9 := hide ((hb.block _ (heap_lt M8.out)).trans M8.out)
    have X9 := hide (X8.out.below hb)
    have B9 := hide (B8.out.trans (hb.mono X8.out.size))
    clear hb X8 B8 M8
    go_wp2_with fail
    go_ret
    exact ⟨rfl, B9.out⟩
  · obtain ⟨c, hc⟩ : ∃ c : Nat, n = (c : Int) := ⟨n.toNat, by omega⟩
    have HC8 := hide (show c < 8 by omega)
    have HCE := hide hc
    clear hc
    go_upto_region 18 with (fail)
    have X0 := hide X7.out.drew
    have M0 := hide (show w7.drew.heap[mb]? = _ from M7.out)
    have BB0 := hide (show Below B0 w w7.drew from B7.out.drew)
    clear X7 M7 C7 B7
    go_cut [9, 10] from 69 to 77 (fun s9 s10 W => ∃ (ab k j : Nat) (Y : MvS), s9 = .pointer (some ⟨ab, 0, none⟩) ∧ s10 = .int .i64 0 ∧ PutX 8 4 32 0 Xs Y k j ⟨1, 0, 0, 0, 1⟩ td ∧ MvAt W B0 A 8 4 Y ∧ W.heap[ab]? = some (.cells #[.int .i64 (k : Int), .int .i64 (j : Int)] 53 (0, 0)) ∧ W.heap[mb]? = some (.cells #[.pointer (some ⟨A.d, 0, none⟩), .pointer (some ⟨A.pp, 0, none⟩), .pointer (some ⟨A.sb, 0, none⟩), .pointer (some ⟨A.mp, 0, none⟩)] 29 (0, 0)) ∧ Below B0 w W)
    case first =>
      refine wp_region_held_drew (S := (fun W => W.heap[mb]? = some (.cells #[.pointer (some ⟨A.d, 0, none⟩), .pointer (some ⟨A.pp, 0, none⟩), .pointer (some ⟨A.sb, 0, none⟩), .pointer (some ⟨A.mp, 0, none⟩)] 29 (0, 0)))) (by kernel_rfl) (M0.out) (fun hHeld => ?_)
      generalize w7.drew = v0 at *
      refine wpAnyH_take (i := 0) (oi := { dst := some 70, op := Op.fieldAddr 29 (Operand.tmp 6) 2, type := 0, pos := "law.go:169", after := #[], guard := none }) (v := ?_) rfl (by kernel_rfl) (by kernel_rfl) (by kernel_rfl) (fun _ _ _ h => h) (Or.inl ⟨by kernel_rfl, ?_⟩) hHeld ?_
      rotate_left
      · (intro w hSw; (try dsimp only at hSw); have m0 := cell_of_block hSw 0; have m1 := cell_of_block hSw 1; have m2 := cell_of_block hSw 2; have m3 := cell_of_block hSw 3; go_simp); try with_reducible rfl
      try simp only [Act.put, List.setIfInBounds_toArray, List.set_cons_zero, List.set_cons_succ]
      refine wpAnyH_take (i := 1) (oi := { dst := some 71, op := Op.load 26 (Operand.tmp 70), type := 26, pos := "law.go:169", after := #[{ on := 0, ground := Ground.data }], guard := none }) (v := ?_) rfl (by kernel_rfl) (by kernel_rfl) (by kernel_rfl) (fun _ _ _ h => h) (Or.inl ⟨by kernel_rfl, ?_⟩) hHeld ?_
      rotate_left
      · (intro w hSw; (try dsimp only at hSw); have m0 := cell_of_block hSw 0; have m1 := cell_of_block hSw 1; have m2 := cell_of_block hSw 2; have m3 := cell_of_block hSw 3; go_simp); try with_reducible rfl
      try simp only [Act.put, List.setIfInBounds_toArray, List.set_cons_zero, List.set_cons_succ]
      refine wpAnyH_take (i := 2) (oi := { dst := some 72, op := Op.build 51 #[(0, Operand.const (Value.int IntKind.u8 1)), (4, Operand.const (Value.int IntKind.i64 1))], type := 51, pos := "law.go:169", after := #[], guard := none }) (v := ?_) rfl (by kernel_rfl) (by kernel_rfl) (by kernel_rfl) (fun _ _ _ h => h) (Or.inl ⟨by kernel_rfl, ?_⟩) hHeld ?_
      rotate_left
      · (intro w hSw; (try dsimp only at hSw); have m0 := cell_of_block hSw 0; have m1 := cell_of_block hSw 1; have m2 := cell_of_block hSw 2; have m3 := cell_of_block hSw 3; go_simp); try with_reducible rfl
      try simp only [Act.put, List.setIfInBounds_toArray, List.set_cons_zero, List.set_cons_succ]
      refine wpAnyH_ready (rs := [3, 8]) (by kernel_rfl) (by simp) (AllReadyH.cons (o := { dst := some 73, op := Op.call { callee := Callee.value (Operand.func 9), args := #[Operand.const (Value.string { data := #[] }), Operand.const (Value.int IntKind.i64 32)], argTypes := #[9, 3] }, type := 9, pos := "law.go:169", after := #[], guard := none }) rfl (fun K hK => ?_) (AllReadyH.cons (o := { dst := some 9, op := Op.alloc 53, type := 0, pos := "law.go:169", after := #[], guard := none }) rfl (fun K hK => ?_) AllReadyH.nil))
      · have hOld := hide hHeld
        clear hHeld
        go_simp
        refine (HFU.out _).mono ?_
        rintro e v1 ⟨rfl, hb⟩
        have X1 := hide (X0.out.below hb)
        have M1 := hide ((hb.block _ (heap_lt M0.out)).trans M0.out)
        have BB1 := hide (BB0.out.trans (hb.mono X0.out.size))
        clear hb
        (try go_wp2_with fail)
        refine hK.out _ _ (M1.out) (fun hHeld => ?_)
        clear hK K hOld
        try simp only [Act.put, List.setIfInBounds_toArray, List.set_cons_zero, List.set_cons_succ]
        refine wpAnyH_ready (rs := [4, 8]) (by kernel_rfl) (by simp) (AllReadyH.cons (o := { dst := some 74, op := Op.call { callee := Callee.value (Operand.func 16), args := #[Operand.tmp 71, Operand.tmp 72, Operand.tmp 73], argTypes := #[26, 51, 9] }, type := 54, pos := "law.go:169", after := #[{ on := 1, ground := Ground.data }, { on := 2, ground := Ground.data }, { on := 3, ground := Ground.data }, { on := 3, ground := Ground.chain }], guard := none }) rfl (fun K hK => ?_) (AllReadyH.cons (o := { dst := some 9, op := Op.alloc 53, type := 0, pos := "law.go:169", after := #[], guard := none }) rfl (fun K hK => ?_) AllReadyH.nil))
        · have hOld := hide hHeld
          clear hHeld
          go_simp
          refine (HPU.out _ X1.out).mono ?_
          rintro e v2 ⟨Y, k, j, rfl, hp, hs, hb⟩
          have HP := hide hp
          have X2 := hide hs
          have M2 := hide (hb.2.cells M1.out (by decide))
          have BB2 := hide (BB1.out.trans hb.1)
          clear hp hs hb
          (try go_wp2_with fail)
          refine hK.out _ _ (M2.out) (fun hHeld => ?_)
          clear hK K hOld
          try simp only [Act.put, List.setIfInBounds_toArray, List.set_cons_zero, List.set_cons_succ]
          refine wpAnyH_take (i := 5) (oi := { dst := some 69, op := Op.move (Operand.tmp 74), type := 54, pos := "law.go:169", after := #[{ on := 4, ground := Ground.data }], guard := none }) (v := ?_) rfl (by kernel_rfl) (by kernel_rfl) (by kernel_rfl) (fun _ _ _ h => h) (Or.inl ⟨by kernel_rfl, ?_⟩) hHeld ?_
          rotate_left
          · (intro w hSw; (try dsimp only at hSw); have m0 := cell_of_block hSw 0; have m1 := cell_of_block hSw 1; have m2 := cell_of_block hSw 2; have m3 := cell_of_block hSw 3; go_simp); try with_reducible rfl
          try simp only [Act.put, List.setIfInBounds_toArray, List.set_cons_zero, List.set_cons_succ]
          refine wpAnyH_take (i := 6) (oi := { dst := some 75, op := Op.extract (Operand.tmp 69) 0, type := 53, pos := "law.go:169", after := #[{ on := 5, ground := Ground.data }], guard := none }) (v := ?_) rfl (by kernel_rfl) (by kernel_rfl) (by kernel_rfl) (fun _ _ _ h => h) (Or.inl ⟨by kernel_rfl, ?_⟩) hHeld ?_
          rotate_left
          · (intro w hSw; (try dsimp only at hSw); have m0 := cell_of_block hSw 0; have m1 := cell_of_block hSw 1; have m2 := cell_of_block hSw 2; have m3 := cell_of_block hSw 3; go_simp); try with_reducible rfl
          try simp only [Act.put, List.setIfInBounds_toArray, List.set_cons_zero, List.set_cons_succ]
          refine wpAnyH_take (i := 7) (oi := { dst := some 76, op := Op.extract (Operand.tmp 69) 1, type := 40, pos := "law.go:169", after := #[{ on := 5, ground := Ground.data }, { on := 9, ground := Ground.gcOnly Departure.lateStores }], guard := none }) (v := ?_) rfl (by kernel_rfl) (by kernel_rfl) (by kernel_rfl) (fun _ _ _ h => h) (Or.inl ⟨by kernel_rfl, ?_⟩) hHeld ?_
          rotate_left
          · (intro w hSw; (try dsimp only at hSw); have m0 := cell_of_block hSw 0; have m1 := cell_of_block hSw 1; have m2 := cell_of_block hSw 2; have m3 := cell_of_block hSw 3; go_simp); try with_reducible rfl
          try simp only [Act.put, List.setIfInBounds_toArray, List.set_cons_zero, List.set_cons_succ]
          refine wpAnyH_ready (rs := [8]) (by kernel_rfl) (by simp) (AllReadyH.cons (o := { dst := some 9, op := Op.alloc 53, type := 0, pos := "law.go:169", after := #[], guard := none }) rfl (fun K hK => ?_) AllReadyH.nil)
          have hOld := hide hHeld
          clear hHeld
          go_simp
          have hal := (Below.refl v2.heap.size v2).alloc (Nat.le_refl _) (.cells #[.int .i64 0, .int .i64 0] 53)
          have A3 := hide (heap_new v2 (.cells #[.int .i64 0, .int .i64 0] 53))
          have X3 := hide (X2.out.below hal)
          have M3 := hide ((hal.block _ (heap_lt M2.out)).trans M2.out)
          have BB3 := hide (BB2.out.trans (hal.mono X2.out.size))
          have HAB := hide (show B0 ≤ v2.heap.size from X2.out.size)
          clear hal
          generalize v2.alloc (.cells #[.int .i64 0, .int .i64 0] 53) = v3 at *
          generalize v2.heap.size = ab at *
          (try go_wp2_with fail)
          refine hK.out _ _ (M3.out) (fun hHeld => ?_)
          clear hK K hOld
          try simp only [Act.put, List.setIfInBounds_toArray, List.set_cons_zero, List.set_cons_succ]
          refine wpAnyH_ready (rs := [9]) (by kernel_rfl) (by simp) (AllReadyH.cons (o := { dst := none, op := Op.store 53 (Operand.tmp 9) (Operand.tmp 75), type := 0, pos := "law.go:169", after := #[{ on := 8, ground := Ground.data }, { on := 6, ground := Ground.data }, { on := 4, ground := Ground.chain }, { on := 0, ground := Ground.phase }, { on := 1, ground := Ground.phase }, { on := 2, ground := Ground.phase }, { on := 3, ground := Ground.phase }, { on := 4, ground := Ground.phase }, { on := 5, ground := Ground.phase }, { on := 6, ground := Ground.phase }, { on := 7, ground := Ground.textOnly Departure.lateStores }, { on := 8, ground := Ground.phase }], guard := none }) rfl (fun K hK => ?_) AllReadyH.nil)
          have hOld := hide hHeld
          clear hHeld
          refine rw_storeO 53 (.tmp 9) (.tmp 75) rfl ab rfl #[.int .i64 (k : Int), .int .i64 (j : Int)] rfl _ A3.out (by kernel_rfl) rfl (by simp [Value.oneCell']) ?_
          have KF := setRow_keeps (Ts := [53]) A3.out (by decide) (#[.int .i64 (k : Int), .int .i64 (j : Int)] : Array Value)
          have A4 := hide (setRow_same (cs := (#[.int .i64 (k : Int), .int .i64 (j : Int)] : Array Value)) A3.out)
          have X4 := hide (X3.out.keepsT KF (by decide) (by decide) (by decide) (by decide) (by decide) (by decide) (by decide) (by decide) (by decide) (by decide) (by decide))
          have M4 := hide (KF.cells M3.out (by decide))
          have BB4 := hide (setRow_below BB3.out HAB.out X3.out.size (#[.int .i64 (k : Int), .int .i64 (j : Int)] : Array Value))
          clear KF
          generalize v3.setRow ab (#[.int .i64 (k : Int), .int .i64 (j : Int)] : Array Value) = v4 at *
          refine hK.out _ _ (M4.out) (fun hHeld => ?_)
          clear hK K hOld
          try simp only [Act.put, List.setIfInBounds_toArray, List.set_cons_zero, List.set_cons_succ]
          refine wpAnyH_take (i := 10) (oi := { dst := some 10, op := Op.assign (Operand.tmp 76), type := 40, pos := "law.go:169", after := #[{ on := 7, ground := Ground.data }, { on := 9, ground := Ground.chain }, { on := 0, ground := Ground.phase }, { on := 1, ground := Ground.phase }, { on := 2, ground := Ground.phase }, { on := 3, ground := Ground.phase }, { on := 4, ground := Ground.phase }, { on := 5, ground := Ground.phase }, { on := 6, ground := Ground.phase }, { on := 7, ground := Ground.phase }, { on := 8, ground := Ground.phase }, { on := 9, ground := Ground.phase }], guard := none }) (v := ?_) rfl (by kernel_rfl) (by kernel_rfl) (by kernel_rfl) (fun _ _ _ h => h) (Or.inl ⟨by kernel_rfl, ?_⟩) hHeld ?_
          rotate_left
          · (intro w hSw; (try dsimp only at hSw); have m0 := cell_of_block hSw 0; have m1 := cell_of_block hSw 1; have m2 := cell_of_block hSw 2; have m3 := cell_of_block hSw 3; go_simp); try with_reducible rfl
          try simp only [Act.put, List.setIfInBounds_toArray, List.set_cons_zero, List.set_cons_succ]
          refine wpAnyH_done (by kernel_rfl) ?_ _
          clear hHeld
          go_wp2_with fail
          go_meet
          exact ⟨ab, k, j, Y, rfl, rfl, HP.out, X4.out, A4.out, M4.out, BB4.out⟩
        · have hOld := hide hHeld
          clear hHeld
          go_simp
          have hal := (Below.refl v1.heap.size v1).alloc (Nat.le_refl _) (.cells #[.int .i64 0, .int .i64 0] 53)
          have A2 := hide (heap_new v1 (.cells #[.int .i64 0, .int .i64 0] 53))
          have X2 := hide (X1.out.below hal)
          have M2 := hide ((hal.block _ (heap_lt M1.out)).trans M1.out)
          have BB2 := hide (BB1.out.trans (hal.mono X1.out.size))
          have HAB := hide (show B0 ≤ v1.heap.size from X1.out.size)
          clear hal
          generalize v1.alloc (.cells #[.int .i64 0, .int .i64 0] 53) = v2 at *
          generalize v1.heap.size = ab at *
          (try go_wp2_with fail)
          refine hK.out _ _ (M2.out) (fun hHeld => ?_)
          clear hK K hOld
          try simp only [Act.put, List.setIfInBounds_toArray, List.set_cons_zero, List.set_cons_succ]
          refine wpAnyH_ready (rs := [4]) (by kernel_rfl) (by simp) (AllReadyH.cons (o := { dst := some 74, op := Op.call { callee := Callee.value (Operand.func 16), args := #[Operand.tmp 71, Operand.tmp 72, Operand.tmp 73], argTypes := #[26, 51, 9] }, type := 54, pos := "law.go:169", after := #[{ on := 1, ground := Ground.data }, { on := 2, ground := Ground.data }, { on := 3, ground := Ground.data }, { on := 3, ground := Ground.chain }], guard := none }) rfl (fun K hK => ?_) AllReadyH.nil)
          have hOld := hide hHeld
          clear hHeld
          go_simp
          refine (HPU.out _ X2.out).mono ?_
          rintro e v3 ⟨Y, k, j, rfl, hp, hs, hb⟩
          have HP := hide hp
          have X3 := hide hs
          have M3 := hide (hb.2.cells M2.out (by decide))
          have A3 := hide (hb.2.cells A2.out (by decide))
          have BB3 := hide (BB2.out.trans hb.1)
          clear hp hs hb
          (try go_wp2_with fail)
          refine hK.out _ _ (M3.out) (fun hHeld => ?_)
          clear hK K hOld
          try simp only [Act.put, List.setIfInBounds_toArray, List.set_cons_zero, List.set_cons_succ]
          refine wpAnyH_take (i := 5) (oi := { dst := some 69, op := Op.move (Operand.tmp 74), type := 54, pos := "law.go:169", after := #[{ on := 4, ground := Ground.data }], guard := none }) (v := ?_) rfl (by kernel_rfl) (by kernel_rfl) (by kernel_rfl) (fun _ _ _ h => h) (Or.inl ⟨by kernel_rfl, ?_⟩) hHeld ?_
          rotate_left
          · (intro w hSw; (try dsimp only at hSw); have m0 := cell_of_block hSw 0; have m1 := cell_of_block hSw 1; have m2 := cell_of_block hSw 2; have m3 := cell_of_block hSw 3; go_simp); try with_reducible rfl
          try simp only [Act.put, List.setIfInBounds_toArray, List.set_cons_zero, List.set_cons_succ]
          refine wpAnyH_take (i := 6) (oi := { dst := some 75, op := Op.extract (Operand.tmp 69) 0, type := 53, pos := "law.go:169", after := #[{ on := 5, ground := Ground.data }], guard := none }) (v := ?_) rfl (by kernel_rfl) (by kernel_rfl) (by kernel_rfl) (fun _ _ _ h => h) (Or.inl ⟨by kernel_rfl, ?_⟩) hHeld ?_
          rotate_left
          · (intro w hSw; (try dsimp only at hSw); have m0 := cell_of_block hSw 0; have m1 := cell_of_block hSw 1; have m2 := cell_of_block hSw 2; have m3 := cell_of_block hSw 3; go_simp); try with_reducible rfl
          try simp only [Act.put, List.setIfInBounds_toArray, List.set_cons_zero, List.set_cons_succ]
          refine wpAnyH_take (i := 7) (oi := { dst := some 76, op := Op.extract (Operand.tmp 69) 1, type := 40, pos := "law.go:169", after := #[{ on := 5, ground := Ground.data }, { on := 9, ground := Ground.gcOnly Departure.lateStores }], guard := none }) (v := ?_) rfl (by kernel_rfl) (by kernel_rfl) (by kernel_rfl) (fun _ _ _ h => h) (Or.inl ⟨by kernel_rfl, ?_⟩) hHeld ?_
          rotate_left
          · (intro w hSw; (try dsimp only at hSw); have m0 := cell_of_block hSw 0; have m1 := cell_of_block hSw 1; have m2 := cell_of_block hSw 2; have m3 := cell_of_block hSw 3; go_simp); try with_reducible rfl
          try simp only [Act.put, List.setIfInBounds_toArray, List.set_cons_zero, List.set_cons_succ]
          refine wpAnyH_ready (rs := [9]) (by kernel_rfl) (by simp) (AllReadyH.cons (o := { dst := none, op := Op.store 53 (Operand.tmp 9) (Operand.tmp 75), type := 0, pos := "law.go:169", after := #[{ on := 8, ground := Ground.data }, { on := 6, ground := Ground.data }, { on := 4, ground := Ground.chain }, { on := 0, ground := Ground.phase }, { on := 1, ground := Ground.phase }, { on := 2, ground := Ground.phase }, { on := 3, ground := Ground.phase }, { on := 4, ground := Ground.phase }, { on := 5, ground := Ground.phase }, { on := 6, ground := Ground.phase }, { on := 7, ground := Ground.textOnly Departure.lateStores }, { on := 8, ground := Ground.phase }], guard := none }) rfl (fun K hK => ?_) AllReadyH.nil)
          have hOld := hide hHeld
          clear hHeld
          refine rw_storeO 53 (.tmp 9) (.tmp 75) rfl ab rfl #[.int .i64 (k : Int), .int .i64 (j : Int)] rfl _ A3.out (by kernel_rfl) rfl (by simp [Value.oneCell']) ?_
          have KF := setRow_keeps (Ts := [53]) A3.out (by decide) (#[.int .i64 (k : Int), .int .i64 (j : Int)] : Array Value)
          have A4 := hide (setRow_same (cs := (#[.int .i64 (k : Int), .int .i64 (j : Int)] : Array Value)) A3.out)
          have X4 := hide (X3.out.keepsT KF (by decide) (by decide) (by decide) (by decide) (by decide) (by decide) (by decide) (by decide) (by decide) (by decide) (by decide))
          have M4 := hide (KF.cells M3.out (by decide))
          have BB4 := hide (setRow_below BB3.out HAB.out X3.out.size (#[.int .i64 (k : Int), .int .i64 (j : Int)] : Array Value))
          clear KF
          generalize v3.setRow ab (#[.int .i64 (k : Int), .int .i64 (j : Int)] : Array Value) = v4 at *
          refine hK.out _ _ (M4.out) (fun hHeld => ?_)
          clear hK K hOld
          try simp only [Act.put, List.setIfInBounds_toArray, List.set_cons_zero, List.set_cons_succ]
          refine wpAnyH_take (i := 10) (oi := { dst := some 10, op := Op.assign (Operand.tmp 76), type := 40, pos := "law.go:169", after := #[{ on := 7, ground := Ground.data }, { on := 9, ground := Ground.chain }, { on := 0, ground := Ground.phase }, { on := 1, ground := Ground.phase }, { on := 2, ground := Ground.phase }, { on := 3, ground := Ground.phase }, { on := 4, ground := Ground.phase }, { on := 5, ground := Ground.phase }, { on := 6, ground := Ground.phase }, { on := 7, ground := Ground.phase }, { on := 8, ground := Ground.phase }, { on := 9, ground := Ground.phase }], guard := none }) (v := ?_) rfl (by kernel_rfl) (by kernel_rfl) (by kernel_rfl) (fun _ _ _ h => h) (Or.inl ⟨by kernel_rfl, ?_⟩) hHeld ?_
          rotate_left
          · (intro w hSw; (try dsimp only at hSw); have m0 := cell_of_block hSw 0; have m1 := cell_of_block hSw 1; have m2 := cell_of_block hSw 2; have m3 := cell_of_block hSw 3; go_simp); try with_reducible rfl
          try simp only [Act.put, List.setIfInBounds_toArray, List.set_cons_zero, List.set_cons_succ]
          refine wpAnyH_done (by kernel_rfl) ?_ _
          clear hHeld
          go_wp2_with fail
          go_meet
          exact ⟨ab, k, j, Y, rfl, rfl, HP.out, X4.out, A4.out, M4.out, BB4.out⟩
      · have hOld := hide hHeld
        clear hHeld
        go_simp
        have hal := (Below.refl v0.heap.size v0).alloc (Nat.le_refl _) (.cells #[.int .i64 0, .int .i64 0] 53)
        have A1 := hide (heap_new v0 (.cells #[.int .i64 0, .int .i64 0] 53))
        have X1 := hide (X0.out.below hal)
        have M1 := hide ((hal.block _ (heap_lt M0.out)).trans M0.out)
        have BB1 := hide (BB0.out.trans (hal.mono X0.out.size))
        have HAB := hide (show B0 ≤ v0.heap.size from X0.out.size)
        clear hal
        generalize v0.alloc (.cells #[.int .i64 0, .int .i64 0] 53) = v1 at *
        generalize v0.heap.size = ab at *
        (try go_wp2_with fail)
        refine hK.out _ _ (M1.out) (fun hHeld => ?_)
        clear hK K hOld
        try simp only [Act.put, List.setIfInBounds_toArray, List.set_cons_zero, List.set_cons_succ]
        refine wpAnyH_ready (rs := [3]) (by kernel_rfl) (by simp) (AllReadyH.cons (o := { dst := some 73, op := Op.call { callee := Callee.value (Operand.func 9), args := #[Operand.const (Value.string { data := #[] }), Operand.const (Value.int IntKind.i64 32)], argTypes := #[9, 3] }, type := 9, pos := "law.go:169", after := #[], guard := none }) rfl (fun K hK => ?_) AllReadyH.nil)
        have hOld := hide hHeld
        clear hHeld
        go_simp
        refine (HFU.out _).mono ?_
        rintro e v2 ⟨rfl, hb⟩
        have X2 := hide (X1.out.below hb)
        have M2 := hide ((hb.block _ (heap_lt M1.out)).trans M1.out)
        have A2 := hide ((hb.block _ (heap_lt A1.out)).trans A1.out)
        have BB2 := hide (BB1.out.trans (hb.mono X1.out.size))
        clear hb
        (try go_wp2_with fail)
        refine hK.out _ _ (M2.out) (fun hHeld => ?_)
        clear hK K hOld
        try simp only [Act.put, List.setIfInBounds_toArray, List.set_cons_zero, List.set_cons_succ]
        refine wpAnyH_ready (rs := [4]) (by kernel_rfl) (by simp) (AllReadyH.cons (o := { dst := some 74, op := Op.call { callee := Callee.value (Operand.func 16), args := #[Operand.tmp 71, Operand.tmp 72, Operand.tmp 73], argTypes := #[26, 51, 9] }, type := 54, pos := "law.go:169", after := #[{ on := 1, ground := Ground.data }, { on := 2, ground := Ground.data }, { on := 3, ground := Ground.data }, { on := 3, ground := Ground.chain }], guard := none }) rfl (fun K hK => ?_) AllReadyH.nil)
        have hOld := hide hHeld
        clear hHeld
        go_simp
        refine (HPU.out _ X2.out).mono ?_
        rintro e v3 ⟨Y, k, j, rfl, hp, hs, hb⟩
        have HP := hide hp
        have X3 := hide hs
        have M3 := hide (hb.2.cells M2.out (by decide))
        have A3 := hide (hb.2.cells A2.out (by decide))
        have BB3 := hide (BB2.out.trans hb.1)
        clear hp hs hb
        (try go_wp2_with fail)
        refine hK.out _ _ (M3.out) (fun hHeld => ?_)
        clear hK K hOld
        try simp only [Act.put, List.setIfInBounds_toArray, List.set_cons_zero, List.set_cons_succ]
        refine wpAnyH_take (i := 5) (oi := { dst := some 69, op := Op.move (Operand.tmp 74), type := 54, pos := "law.go:169", after := #[{ on := 4, ground := Ground.data }], guard := none }) (v := ?_) rfl (by kernel_rfl) (by kernel_rfl) (by kernel_rfl) (fun _ _ _ h => h) (Or.inl ⟨by kernel_rfl, ?_⟩) hHeld ?_
        rotate_left
        · (intro w hSw; (try dsimp only at hSw); have m0 := cell_of_block hSw 0; have m1 := cell_of_block hSw 1; have m2 := cell_of_block hSw 2; have m3 := cell_of_block hSw 3; go_simp); try with_reducible rfl
        try simp only [Act.put, List.setIfInBounds_toArray, List.set_cons_zero, List.set_cons_succ]
        refine wpAnyH_take (i := 6) (oi := { dst := some 75, op := Op.extract (Operand.tmp 69) 0, type := 53, pos := "law.go:169", after := #[{ on := 5, ground := Ground.data }], guard := none }) (v := ?_) rfl (by kernel_rfl) (by kernel_rfl) (by kernel_rfl) (fun _ _ _ h => h) (Or.inl ⟨by kernel_rfl, ?_⟩) hHeld ?_
        rotate_left
        · (intro w hSw; (try dsimp only at hSw); have m0 := cell_of_block hSw 0; have m1 := cell_of_block hSw 1; have m2 := cell_of_block hSw 2; have m3 := cell_of_block hSw 3; go_simp); try with_reducible rfl
        try simp only [Act.put, List.setIfInBounds_toArray, List.set_cons_zero, List.set_cons_succ]
        refine wpAnyH_take (i := 7) (oi := { dst := some 76, op := Op.extract (Operand.tmp 69) 1, type := 40, pos := "law.go:169", after := #[{ on := 5, ground := Ground.data }, { on := 9, ground := Ground.gcOnly Departure.lateStores }], guard := none }) (v := ?_) rfl (by kernel_rfl) (by kernel_rfl) (by kernel_rfl) (fun _ _ _ h => h) (Or.inl ⟨by kernel_rfl, ?_⟩) hHeld ?_
        rotate_left
        · (intro w hSw; (try dsimp only at hSw); have m0 := cell_of_block hSw 0; have m1 := cell_of_block hSw 1; have m2 := cell_of_block hSw 2; have m3 := cell_of_block hSw 3; go_simp); try with_reducible rfl
        try simp only [Act.put, List.setIfInBounds_toArray, List.set_cons_zero, List.set_cons_succ]
        refine wpAnyH_ready (rs := [9]) (by kernel_rfl) (by simp) (AllReadyH.cons (o := { dst := none, op := Op.store 53 (Operand.tmp 9) (Operand.tmp 75), type := 0, pos := "law.go:169", after := #[{ on := 8, ground := Ground.data }, { on := 6, ground := Ground.data }, { on := 4, ground := Ground.chain }, { on := 0, ground := Ground.phase }, { on := 1, ground := Ground.phase }, { on := 2, ground := Ground.phase }, { on := 3, ground := Ground.phase }, { on := 4, ground := Ground.phase }, { on := 5, ground := Ground.phase }, { on := 6, ground := Ground.phase }, { on := 7, ground := Ground.textOnly Departure.lateStores }, { on := 8, ground := Ground.phase }], guard := none }) rfl (fun K hK => ?_) AllReadyH.nil)
        have hOld := hide hHeld
        clear hHeld
        refine rw_storeO 53 (.tmp 9) (.tmp 75) rfl ab rfl #[.int .i64 (k : Int), .int .i64 (j : Int)] rfl _ A3.out (by kernel_rfl) rfl (by simp [Value.oneCell']) ?_
        have KF := setRow_keeps (Ts := [53]) A3.out (by decide) (#[.int .i64 (k : Int), .int .i64 (j : Int)] : Array Value)
        have A4 := hide (setRow_same (cs := (#[.int .i64 (k : Int), .int .i64 (j : Int)] : Array Value)) A3.out)
        have X4 := hide (X3.out.keepsT KF (by decide) (by decide) (by decide) (by decide) (by decide) (by decide) (by decide) (by decide) (by decide) (by decide) (by decide))
        have M4 := hide (KF.cells M3.out (by decide))
        have BB4 := hide (setRow_below BB3.out HAB.out X3.out.size (#[.int .i64 (k : Int), .int .i64 (j : Int)] : Array Value))
        clear KF
        generalize v3.setRow ab (#[.int .i64 (k : Int), .int .i64 (j : Int)] : Array Value) = v4 at *
        refine hK.out _ _ (M4.out) (fun hHeld => ?_)
        clear hK K hOld
        try simp only [Act.put, List.setIfInBounds_toArray, List.set_cons_zero, List.set_cons_succ]
        refine wpAnyH_take (i := 10) (oi := { dst := some 10, op := Op.assign (Operand.tmp 76), type := 40, pos := "law.go:169", after := #[{ on := 7, ground := Ground.data }, { on := 9, ground := Ground.chain }, { on := 0, ground := Ground.phase }, { on := 1, ground := Ground.phase }, { on := 2, ground := Ground.phase }, { on := 3, ground := Ground.phase }, { on := 4, ground := Ground.phase }, { on := 5, ground := Ground.phase }, { on := 6, ground := Ground.phase }, { on := 7, ground := Ground.phase }, { on := 8, ground := Ground.phase }, { on := 9, ground := Ground.phase }], guard := none }) (v := ?_) rfl (by kernel_rfl) (by kernel_rfl) (by kernel_rfl) (fun _ _ _ h => h) (Or.inl ⟨by kernel_rfl, ?_⟩) hHeld ?_
        rotate_left
        · (intro w hSw; (try dsimp only at hSw); have m0 := cell_of_block hSw 0; have m1 := cell_of_block hSw 1; have m2 := cell_of_block hSw 2; have m3 := cell_of_block hSw 3; go_simp); try with_reducible rfl
        try simp only [Act.put, List.setIfInBounds_toArray, List.set_cons_zero, List.set_cons_succ]
        refine wpAnyH_done (by kernel_rfl) ?_ _
        clear hHeld
        go_wp2_with fail
        go_meet
        exact ⟨ab, k, j, Y, rfl, rfl, HP.out, X4.out, A4.out, M4.out, BB4.out⟩
    case rest =>
    obtain ⟨ab, k, j, Y, rfl, rfl, hp, hy, ha, hm, hb⟩ := hcut
    have X8 := hide hy
    have A8 := hide ha
    have M8 := hide hm
    have B8 := hide hb
    have P8 := hide hp
    clear hy ha hm hb hp X0 M0 BB0 HPU HFU
    have HOKY := hide (P8.out.mapped 0 (by rw [HC0.out.2.1]; decide))
    have HWP := hide (fun W (hW : MvAt W B0 A 8 4 Y) => wput16 (X := Y) (by decide) (by decide) 0 k j ⟨1, 0, 0, 0, 1⟩ td (by rw [P8.out.same.1, HC0.out.2.1]; decide) P8.out.kj.1 P8.out.kj.2.2 (fun i hi => absurd (by rw [← P8.out.same.1]; exact hi) (P8.out.fresh i)) W hW)
    rw [show ((0 : Nat) : Int) = 0 from rfl] at HWP
    have hcapY := P8.out.cap HOK0.out
    rw [HC0.out.1] at hcapY
    have hM2 : (mapX Y 0 k j ⟨1, 0, 0, 0, 1⟩ td).M.getD 0 none = some ((k : Int), (j : Int)) := by
      show (Y.M.set 0 _).getD 0 none = _
      have : 0 < Y.M.length := by rw [P8.out.same.1, HC0.out.2.1]; decide
      simp [List.getD, this]
    have hMl : (mapX Y 0 k j ⟨1, 0, 0, 0, 1⟩ td).M.length = 6 := by
      show (Y.M.set 0 _).length = 6
      rw [List.length_set, P8.out.same.1, HC0.out.2.1]
    have hcapZ : capX 4 (mapX Y 0 k j ⟨1, 0, 0, 0, 1⟩ td) = 23 := by
      show capX 4 Y = 23
      omega
    have h7 := free16_any7 HOK0.out HC0.out.2.2.2 HC0.out.2.2.1 P8.out
    have h7' : (mapX Y 0 k j ⟨1, 0, 0, 0, 1⟩ td).op = ((7 : Nat) : Int) ∨ ((mapX Y 0 k j ⟨1, 0, 0, 0, 1⟩ td).L.getD 7 (0, 0)).1 ≠ 2 := h7
    have hk := P8.out.kj.1
    clear hcapY h7
    generalize mapX Y 0 k j ⟨1, 0, 0, 0, 1⟩ td = Z at *
    have HCL := hide (fun W (hW : MvAt W B0 A 8 4 Z) => clear16 HOKY.out (by decide) (by decide) (by decide) (by decide) (by decide) c HC8.out (by
      have h1 := cap_shut HOKY.out (by decide) c
      have h2 := live_le Z.M (c : Int)
      have h3 := total_le Z.M
      omega) W hW)
    unfold Clear16 at HCL
    rw [← HCE.out] at HCL
    have HFA := hide (fun W (hW : MvAt W B0 A 8 4 Z) => free16_no HOKY.out k hk (.inl (live_pos Z.M 0 (k : Int) (j : Int) hM2)) W hW)
    have HFB := hide (fun W (hW : MvAt W B0 A 8 4 Z) => free16_no HOKY.out 7 (by decide) (.inr h7') W hW)
    rw [show ((7 : Nat) : Int) = 7 from rfl] at HFB
    clear hM2 hMl hcapZ h7' hk HC0 HOK0 HOKY HCE
    obtain ⟨kz, hkz⟩ : ∃ z : Int, (k : Int) = z := ⟨_, rfl⟩
    obtain ⟨jz, hjz⟩ : ∃ z : Int, (j : Int) = z := ⟨_, rfl⟩
    rw [hkz] at HFA HWP A8
    rw [hjz] at HWP A8
    clear hkz hjz
    have a3 := cell_of_block M8.out 3
    go_wp2_with (refine rw_load rfl 53 (.tmp 9) rfl ab rfl 53 #[.int .i64 kz, .int .i64 jz] (0, 0) _ A8.out Tryz.underlying53 rfl (by kernel_rfl) ?_)
    refine (HWP.out _ X8.out).mono ?_
    rintro e w9 ⟨rfl, hm, hb⟩
    have M9 := hide (hb.keep M8.out (by decide))
    have A9 := hide (hb.keep A8.out (by decide))
    have X9 := hide hm
    have B9 := hide (B8.out.trans hb.1)
    clear hb hm X8 B8 M8 A8 a3 HWP
    have b0 := cell_of_block A9.out 0
    go_wp2_with (refine rw_load rfl 29 (.tmp 6) rfl mb rfl 29 #[.pointer (some ⟨A.d, 0, none⟩), .pointer (some ⟨A.pp, 0, none⟩), .pointer (some ⟨A.sb, 0, none⟩), .pointer (some ⟨A.mp, 0, none⟩)] (0, 0) _ M9.out Tryz.underlying29 rfl (by kernel_rfl) ?_)
    refine (HFA.out _ X9.out).mono ?_
    rintro e w10 ⟨rfl, hb⟩
    have M10 := hide ((hb.block _ (heap_lt M9.out)).trans M9.out)
    have A10 := hide ((hb.block _ (heap_lt A9.out)).trans A9.out)
    have X10 := hide (X9.out.below hb)
    have B10 := hide (B9.out.trans (hb.mono X9.out.size))
    clear hb X9 B9 M9 A9 b0 HFA
    go_wp2_with (refine rw_load rfl 29 (.tmp 6) rfl mb rfl 29 #[.pointer (some ⟨A.d, 0, none⟩), .pointer (some ⟨A.pp, 0, none⟩), .pointer (some ⟨A.sb, 0, none⟩), .pointer (some ⟨A.mp, 0, none⟩)] (0, 0) _ M10.out Tryz.underlying29 rfl (by kernel_rfl) ?_)
    refine (HFB.out _ X10.out).mono ?_
    rintro e w11 ⟨rfl, hb⟩
    have M11 := hide ((hb.block _ (heap_lt M10.out)).trans M10.out)
    have X11 := hide (X10.out.below hb)
    have B11 := hide (B10.out.trans (hb.mono X10.out.size))
    clear hb X10 B10 M10 HFB
    have m0 := cell_of_block M11.out 0
    have m1 := cell_of_block M11.out 1
    have m2 := cell_of_block M11.out 2
    have m3 := cell_of_block M11.out 3
    go_wp2_with fail
    refine (HCL.out _ X11.out).mono ?_
    rintro e w12 ⟨V, rfl, hv, hc, hm, hb⟩
    have B12 := hide (B11.out.trans hb.1)
    clear hv hc hm hb m0 m1 m2 m3
    go_wp2_with fail
    go_ret
    exact ⟨rfl, B12.out⟩

set_option maxRecDepth 100000 in
theorem moveRefuses_lifted (os : Os) (started : os.Started) (H : Type) (enc : TypeId × Value → H) :
    ReturnsInHanded {} Tryz.checked os 5 .any (Rows.moveRefusesSpec.pre6 enc Tryz.prog Tryz.f5 Rows.moveRefusesRow.domain false) (Rows.moveRefusesSpec.post enc Tryz.prog Tryz.f5 false true false false) := by
  refine returnsInHanded_of_change (C := Tryz.checked) own started (by kernel_rfl) Tryz.func5
    (ChangeSpec.witness6 (enc := enc) (C := Tryz.checked) false ⟨#[], #[.int .i64 0, .int .u8 0], []⟩ 8 (by kernel_rfl) (by kernel_rfl) (by kernel_rfl) (by kernel_rfl)) ?_
  intro W base args ds gs before hval0 hW _ _
  have hval : ∀ (j : Nat) t v, Tryz.f5.params[j]? = some t → args[j]? = some v → Value.okWide Tryz.prog W .any base t v := hval0
  have hW' := hW
  obtain ⟨p, q, hA0, hV, rfl, hfz, hnd⟩ := hW
  have hA : DataW.TrodAll enc Tryz.prog W 0 (fun _ => true) true Tryz.f5.params.toList args.toList ds p := hA0
  rw [Tryz.params5] at hA hval
  obtain ⟨v0, vs0, d0, ds0, p0, q0, hargs, rfl, rfl, h0, r0⟩ := trodAll_cons hA
  obtain ⟨v1, vs1, d1, ds1, p1, q1, rfl, rfl, rfl, h1, r1⟩ := trodAll_cons r0
  obtain ⟨rfl, rfl, rfl⟩ := trodAll_nil r1
  obtain rfl : args = #[v0, v1] := by cases args; simp_all
  obtain ⟨rfl, rfl⟩ := trodVars_none hV
  obtain ⟨n, rfl, rfl, rfl, w0⟩ := open_int Tryz.underlying3 (hval 0 3 v0 rfl rfl) h0
  have z0 := wf_i64 w0
  obtain ⟨d, rfl, rfl, rfl, w1⟩ := open_int Tryz.underlying5 (hval 1 5 v1 rfl rfl) h1
  have z1 := wf_u8 w1
  clear hA0 hval0
  refine (moveRefuses_walk n z0.1 z0.2 d z1.1 z1.2 W).mono fun e W' ⟨he, hb⟩ => ?_
  subst he
  exact ⟨_, rfl, post_law laidOut (of_decide_eq_true (by kernel_rfl)) rfl rfl Tryz.underlying4 hW' ⟨rfl, rfl, rfl⟩ hb⟩

/-- THE STATEMENT -/
theorem moveRefuses_holds : Rows.MoveRefusesSaid :=
  OpenClaim.holds_of_wide 5 Tryz.f5 rfl rfl rfl rfl rfl rfl rfl ⟨rfl, rfl, rfl, rfl, rfl⟩ rfl rfl rfl rfl rfl (by kernel_rfl) Tryz.func5 (by kernel_rfl)
    (of_decide_eq_true (by kernel_rfl)) (by unfold Func.isWrapper; first | (rw [if_pos (by decide +kernel)]; kernel_rfl) | (rw [if_neg (by decide +kernel)]; exact ⟨rfl, rfl⟩))
    (fun os started H enc _ => moveRefuses_lifted os started H enc)

end Go.Proofs.YtmcaegbggblfpaaGreat
