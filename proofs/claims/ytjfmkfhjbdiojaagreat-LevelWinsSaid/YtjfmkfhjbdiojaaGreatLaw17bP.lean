/-
  Layer 17: LevelWins: writes that go on, with a block won whenever less than three are free, never want for room, and each page reads what was put last.
-/
import Derived.Test.YtjfmkfhjbdiojaaGreatPk21
import Derived.Deep.CutBlock
--import Derived.Test.Zdbg
namespace Go.Proofs.YtjfmkfhjbdiojaaGreat
set_option linter.unusedSimpArgs false
set_option linter.unusedVariables false
open Go.RowKit Go.WideShapes Go.ChangeShapes Go.ChangeAt Go.Deep W

theorem getD_mem17 (zs : List Int) (i : Nat) (h : i < zs.length) : zs.getD i 0 ∈ zs := by
  simp [List.getD, h]
theorem Keyed17 : Go.Maps.Keyed Tryz.prog 3 := Go.Maps.int_keyed Tryz.underlying3
theorem key17 {a : Int} (h0 : -9223372036854775808 ≤ a) (h1 : a ≤ 9223372036854775807) : keyOf Tryz.prog 3 (.int .i64 a) = some (.int .i64 a) := Go.Maps.keyOf_int_mk Tryz.underlying3 (WalkArith.wf_i64 ⟨h0, h1⟩)
/-- a page of a logical page, as it is read -/
theorem has_read17 {nb pg sz : Nat} {N : Int} {X : MvS} (h : HOk nb pg sz N X) {l : Nat} {x : Int × Int} (hx : X.M.getD l none = some x) :
    ∃ k j : Nat, x = ((k : Int), (j : Int)) ∧ k < nb ∧ j < pg ∧ (X.D l).1.ok ∧ (X.D l).2.length = sz ∧ askE X.S (k : Int) (j : Int) = 0 ∧ readP X.S (k : Int) (j : Int) = (bs (X.D l).2, bs (frameL (X.D l).1.k (X.D l).1.l (X.D l).1.s (X.D l).1.n (X.D l).1.m (X.D l).2)) := by
  obtain ⟨k, j, rfl, h1, h2, h3, h4, h5⟩ := h.has l x hx
  have ha : askE X.S (k : Int) (j : Int) = 0 := askE_yes h.heal.off (by rw [h.dims.1]; exact h1) (by rw [h.dims.2.1]; exact h2)
  refine ⟨k, j, rfl, h1, h2, h5.ok, h5.len, ha, ?_⟩
  unfold readP
  rw [if_pos ha, Int.toNat_natCast, Int.toNat_natCast]
  exact h5.page
theorem MvAt.onlyMap {w w' : World} {B0 nb pg bm : Nat} {A : MvA} {X : MvS} (h : MvAt w B0 A nb pg X) (ho : Only bm w w') (hm : ∀ c t fz, w.heap[bm]? ≠ some (.cells c t fz)) (hne : bm ≠ A.mo) : MvAt w' B0 A nb pg X := by
  have hk : KeepsC [] w w' := fun k c t fz hk _ => by
    by_cases e : k = bm
    · subst e; exact absurd hk (hm c t fz)
    · exact (ho.block k (heap_lt hk) e).trans hk
  obtain ⟨f, hf, -⟩ := h.mp.own
  exact ⟨h.st.keepsC hk (by simp) (by simp) (by simp) (by simp) (by simp) (by simp) (by simp) (by simp), h.mp.kept ((hk _ _ _ _ h.mp.head (by simp)).trans h.mp.head.symm) ((hk _ _ _ _ h.mp.row (by simp)).trans h.mp.row.symm) (ho.block _ hf.lt (Ne.symm hne)) ((hk _ _ _ _ h.mp.live (by simp)).trans h.mp.live.symm), h.low⟩
set_option maxRecDepth 100000 in
set_option maxHeartbeats 24000000 in
theorem levelWins_walk (v : Value) (w : World) (hv : ∃ zs : List Int, NumsAt w .u8 v zs ∧ (∀ z ∈ zs, (Lit.int .u8 z).wf = true) ∧ zs.length ≤ maxLen) : Calls Tryz.prog 3 #[v] w fun e w' => e = .returned (.bool true) ∧ Below w.heap.size w w' := by
  obtain ⟨zs, hz, hwf, hzl⟩ := hv
  obtain ⟨za, zcap, rfl, hzc, hel⟩ := nums16 hz
  have HFR := hide (fun W => fresh16 W)
  unfold Fresh16 at HFR
  have HWK := hide (fun W => wakes17 W)
  have HI0 := hide inv_new
  obtain ⟨Xs, hX0⟩ : ∃ Xs, mvX0 = Xs := ⟨_, rfl⟩
  have HF9 := hide mv17.2.2.2.2.2.2.2
  have HT0 := hide (show total mvX0.M = 0 from rfl)
  rw [hX0] at HFR HI0 HF9 HT0
  clear hX0
  obtain ⟨m, hm⟩ : ∃ m, min zs.length 120 = m := ⟨_, rfl⟩
  have HM12 := hide (show m ≤ 120 by omega)
  have HMZ := hide (show m ≤ zs.length by omega)
  have hjF : (if (120 : Int) < (zs.length : Int) then (120 : Int) else (zs.length : Int)) = (m : Int) := by split <;> omega
  have hjI : min (zs.length : Int) 120 = (m : Int) := by omega
  have hjc : (m : Int) ≤ (zcap : Int) := by omega
  have HWF := hide (show ∀ z ∈ zs, 0 ≤ z ∧ z ≤ 255 from fun z hz => by have := wf_u8 (hwf z hz); omega)
  obtain ⟨B0, hB0⟩ : ∃ B0, w.heap.size = B0 := ⟨_, rfl⟩
  rw [hB0] at hel ⊢
  have HEL := hide (fun i (hi : i < m) => hel i (by omega))
  clear hz hwf hzl hzc hel hm
  go_enter Tryz.func3, Tryz.ntmps3
  go_wp2_with fail
  refine (HFR.out _).mono ?_
  rintro e w1 ⟨A, rfl, hm, hb⟩
  rw [hB0] at hm hb
  have X1 := hide hm
  have B1 := hide hb
  clear hm hb HFR hB0
  go_upto_region 2 with (refine rw_store rfl 29 (.tmp 4) (.tmp 21) rfl w1.heap.size rfl #[.pointer (some ⟨A.d, 0, none⟩), .pointer (some ⟨A.pp, 0, none⟩), .pointer (some ⟨A.sb, 0, none⟩), .pointer (some ⟨A.mp, 0, none⟩)] rfl _ (heap_new w1 _) (by kernel_rfl) rfl (by simp [Value.oneCell']) ?_)
  have XB := hide (heap_new w1 (.cells #[.pointer none, .pointer none, .pointer none, .pointer none] 29))
  have hal := (Below.refl w1.heap.size w1).alloc (Nat.le_refl _) (.cells #[.pointer none, .pointer none, .pointer none, .pointer none] 29)
  have hbb := setRow_below (hal.trans (Below.refl _ _)) (Nat.le_refl _) hal.size (#[.pointer (some ⟨A.d, 0, none⟩), .pointer (some ⟨A.pp, 0, none⟩), .pointer (some ⟨A.sb, 0, none⟩), .pointer (some ⟨A.mp, 0, none⟩)] : Array Value)
  have M2 := hide (setRow_same (cs := (#[.pointer (some ⟨A.d, 0, none⟩), .pointer (some ⟨A.pp, 0, none⟩), .pointer (some ⟨A.sb, 0, none⟩), .pointer (some ⟨A.mp, 0, none⟩)] : Array Value)) XB.out)
  have X2 := hide (X1.out.below hbb)
  have B2 := hide (B1.out.trans (hbb.mono X1.out.size))
  clear hal hbb XB X1 B1 
  generalize (w1.alloc (.cells #[.pointer none, .pointer none, .pointer none, .pointer none] 29)).setRow w1.heap.size (#[.pointer (some ⟨A.d, 0, none⟩), .pointer (some ⟨A.pp, 0, none⟩), .pointer (some ⟨A.sb, 0, none⟩), .pointer (some ⟨A.mp, 0, none⟩)] : Array Value) = w2 at *
  generalize w1.heap.size = mb at *
  (try rw [show ∀ (a : Act) (v : Value), a.put none v = a from fun _ _ => rfl])
  go_wp2_with fail
  refine (HWK.out _).mono ?_
  rintro e w3 ⟨rfl, hb⟩
  have M3 := hide ((hb.block _ (heap_lt M2.out)).trans M2.out)
  have X3 := hide (X2.out.below hb)
  have B3 := hide (B2.out.trans (hb.mono X2.out.size))
  clear hb X2 B2 M2
  have hmk := @run_makeMap Tryz.prog
  go_upto_region 5 with (fail)
  have L4 := hide (MapIs.made w3 Tryz.prog 3)
  have hal := (Below.refl w3.heap.size w3).alloc (Nat.le_refl _) (.map #[] 0)
  have X4 := hide (X3.out.below hal)
  have M4 := hide ((hal.block _ (heap_lt M3.out)).trans M3.out)
  have B4 := hide (B3.out.trans (hal.mono X3.out.size))
  have HBM := hide (show w3.heap.size ≠ A.mo from by have := X3.out.mp.lt.2.2.1; omega)
  have HBB := hide X3.out.size
  clear hal hmk X3 M3 B3 HWK
  generalize w3.alloc (.map #[] 0) = w4 at *
  generalize w3.heap.size = bm at *
  go_wp2_with fail
  go_loopw [36] (fun s W => ∃ (i : Nat) (V : MvS) (F : Nat → Option Nat) (f : Lit → Option Value) (n : Nat), i ≤ m ∧ s = .int .i64 (i : Int) ∧ Inv17 F (700 * (i : Int)) V ∧ MapF F f ∧ n ≤ i ∧ MapIs W Tryz.prog 3 bm n (total V.M) f ∧ MvAt W B0 A 9 5 V ∧ W.heap[mb]? = some (.cells #[.pointer (some ⟨A.d, 0, none⟩), .pointer (some ⟨A.pp, 0, none⟩), .pointer (some ⟨A.sb, 0, none⟩), .pointer (some ⟨A.mp, 0, none⟩)] 29 (0, 0)) ∧ Below B0 w W) (fun s _ => m - (intOf s).toNat)
  case atStart => exact ⟨0, Xs, _, _, 0, by omega, rfl, HI0.out.mono (by omega), mapF_new, Nat.le_refl _, by rw [HT0.out]; exact L4.out, X4.out, M4.out, B4.out⟩
  case round =>
    obtain ⟨i, V, F, f, n, him, rfl, hy, hF, hn, hL, hx, hm, hb⟩ := hrel
    have I4 := hide hy
    have F4 := hide hF
    have N4 := hide hn
    have Lr := hide hL
    have Xr := hide hx
    have Mr := hide hm
    have Br := hide hb
    clear hy hF hn hL hx hm hb L4 X4 M4 B4 HI0 HF9 HT0
    rcases Nat.lt_or_ge i m with hlt | hge
    · have hI : (i : Int) < (m : Int) := by omega
      have HLT := hide hlt
      obtain ⟨b, off, rfl, hbl, hcl⟩ := HEL.out i hlt
      have hcl2 := (cell_keep' Br.out hbl).trans hcl
      have hwf := HWF.out (zs.getD i 0) (getD_mem17 zs i (by have := HMZ.out; omega))
      obtain ⟨x, hx⟩ : ∃ x : Nat, zs.getD i 0 = (x : Int) := ⟨(zs.getD i 0).toNat, by omega⟩
      rw [hx] at hcl2 hwf
      obtain ⟨l, hl⟩ : ∃ l : Nat, x % 10 = l := ⟨_, rfl⟩
      have HL10 := hide (show l < 10 by omega)
      have HTM := hide (show (x : Int).tmod 10 = (l : Int) by rw [Int.tmod_eq_emod_of_nonneg (by omega)]; omega)
      have HXB := hide (show x ≤ 255 by omega)
      clear hcl hbl hwf hx hl him hlt hjF hjI hjc
      obtain ⟨c0, hc0⟩ : ∃ c0, total V.M = c0 := ⟨_, rfl⟩
      have HC0 := hide hc0
      rw [hc0] at Lr
      clear hc0
      go_wp2_with fail
      clear hcl2
      go_loopw [41] (fun s W => ∃ (r : Nat) (U : MvS), r ≤ 2 ∧ s = .int .i64 (r : Int) ∧ Inv17 F (700 * (i : Int) + 15 * (r : Int)) U ∧ (3 ≤ freeN U.L ∨ r = 0 ∨ (r = 1 ∧ 1 ≤ U.lf)) ∧ total U.M = c0 ∧ MapIs W Tryz.prog 3 bm n c0 f ∧ MvAt W B0 A 9 5 U ∧ W.heap[mb]? = some (.cells #[.pointer (some ⟨A.d, 0, none⟩), .pointer (some ⟨A.pp, 0, none⟩), .pointer (some ⟨A.sb, 0, none⟩), .pointer (some ⟨A.mp, 0, none⟩)] 29 (0, 0)) ∧ Below B0 w W) (fun s _ => 45 - (intOf s).toNat)
      case atStart => exact ⟨0, V, by omega, rfl, I4.out.mono (by omega), .inr (.inl rfl), HC0.out, Lr.out, Xr.out, Mr.out, Br.out⟩
      case round =>
        obtain ⟨r, U, hr2, rfl, hy, hs, ht, hL, hx, hm, hb⟩ := hrel
        have I5 := hide hy
        have S5 := hide hs
        have T5 := hide ht
        have Lr := hide hL
        have Xr := hide hx
        have Mr := hide hm
        have Br := hide hb
        have HR2 := hide hr2
        clear hy hs ht hL hx hm hb
        have hr45 : (r : Int) < 45 := by omega
        have HSO := hide (fun W (hW : MvAt W B0 A 9 5 U) => short_any A.pp A.pq U.L (by rw [I5.out.ok.llen]; decide) 3 W hW.st.pool)
        rw [cnt_freeN] at HSO
        clear hr2
        by_cases h3 : 3 ≤ freeN U.L
        · rw [show decide ((freeN U.L : Int) < 3) = false from decide_eq_false (by omega)] at HSO
          have H3 := hide h3
          clear h3
          have m1 := cell_of_block Mr.out 1
          go_wp2_with fail
          refine (HSO.out _ Xr.out).mono ?_
          rintro e w6 ⟨rfl, hb⟩
          have M6 := hide ((hb.block _ (heap_lt Mr.out)).trans Mr.out)
          have L6 := hide (Lr.out.below hb)
          have X6 := hide (Xr.out.below hb)
          have B6 := hide (Br.out.trans (hb.mono Xr.out.size))
          clear hb Xr Br Mr Lr m1
          have hwx : wrap64 (x : Int) = (x : Int) := wrap_sm17 _ (by have := HXB.out; omega)
          have htm := HTM.out
          obtain ⟨lz, hlz⟩ : ∃ z : Int, (l : Int) = z := ⟨_, rfl⟩
          have HLZ := hide hlz
          rw [hlz] at htm
          clear hlz
          have m1 := cell_of_block M6.out 1
          go_wp2_with fail
          refine (HSO.out _ X6.out).mono ?_
          rintro e w7 ⟨rfl, hb⟩
          have M7 := hide ((hb.block _ (heap_lt M6.out)).trans M6.out)
          have L7 := hide (L6.out.below hb)
          have X7 := hide (X6.out.below hb)
          have B7 := hide (B6.out.trans (hb.mono X6.out.size))
          clear hb X6 B6 M6 L6 m1
          clear hwx htm
          obtain ⟨sq, hsq⟩ : ∃ z : Int, ((i + 1 : Nat) : Int) = z := ⟨_, rfl⟩
          have HSQ := hide hsq
          have hwu : IntKind.u64.wrap ((i : Int) + 1) = sq := by rw [← hsq, Int.natCast_succ]; exact u64_id16 _ (by omega) (by have := HM12.out; have := HLT.out; omega)
          have HI1 := hide (show i + 1 ≤ 121 from by have := HM12.out; have := HLT.out; omega)
          have HPU := hide (fun W (hW : MvAt W B0 A 9 5 U) => put17 I5.out.ok (by have := HI1.out; have := HR2.out; omega) (by decide) (by decide) (by decide) (.inr (by have := H3.out; omega)) l (i + 1) (by rw [I5.out.len]; exact HL10.out) (by have := HL10.out; omega) (by have := HI1.out; omega) W hW)
          unfold PutL at HPU
          rw [HLZ.out, HSQ.out] at HPU
          clear hsq
          have hi121 : (i : Int) + 1 ≤ 121 := by have := HI1.out; omega
          have m0 := cell_of_block M7.out 0
          have m1 := cell_of_block M7.out 1
          have m2 := cell_of_block M7.out 2
          have m3 := cell_of_block M7.out 3
          go_wp2_with fail
          refine (HPU.out _ X7.out).mono ?_
          rintro e w8 ⟨Y, k, j, rfl, hp, hm, hb⟩
          have M8 := hide (hb.keep M7.out (by decide))
          have X8 := hide hm
          have B8 := hide (B7.out.trans hb.1)
          have P8 := hide hp
          have HB8 := hide hb
          clear hp
          clear hb hm X7 B7 M7 m0 m1 m2 m3 HPU
          have L8 := hide (HB8.out.keepMap L7.out HBM.out)
          clear L7 HB8
          rw [← HLZ.out, ← HSQ.out] at P8 X8
          obtain ⟨hi1, hi2⟩ := inv_put (s := i + 1) I5.out H3.out HL10.out (by have := HI1.out; omega) P8.out
          have I8 := hide hi1
          have T8 := hide hi2
          have F8 := hide (mapF_put F4.out l (i + 1))
          have HIS := hide (show (f (.int .i64 lz)).isSome = (F l).isSome by
            have h := F4.out (l : Int) (by omega) (by have := HL10.out; omega)
            rw [← HLZ.out, h, if_pos (by omega), Int.toNat_natCast]
            cases F l <;> rfl)
          rw [HLZ.out, HSQ.out] at F8
          have HNC := hide L8.out.notCells
          have HKY := hide (key17 (a := lz) (by have := HLZ.out; omega) (by have := HLZ.out; have := HL10.out; omega))
          clear hi1 hi2 hr45 P8
          generalize mapX Y l k j ⟨1, l, ((i + 1 : Nat) : Int), 0, 1⟩ (txt17 l (i + 1)) = Z at *
          go_wp2_with (at_mapUpdate; refine wpList_mapStore _ rfl _ _ _ 33 rfl 3 39 Keyed17 Tryz.underlying33 bm n c0 f rfl L8.out (by have := N4.out; have := HM12.out; have := HLT.out; unfold maxLen; omega) (.int .i64 lz) (.int .u64 sq) (.int .i64 lz) rfl rfl HKY.out trivial ?_; intro w9 hm9 hg9; have L9 := hide hm9; have G9 := hide (only_of_grown hg9); clear hm9 hg9)
          have X9 := hide (X8.out.onlyMap G9.out HNC.out HBM.out)
          have M9 := hide (show w9.heap[mb]? = some (.cells #[.pointer (some ⟨A.d, 0, none⟩), .pointer (some ⟨A.pp, 0, none⟩), .pointer (some ⟨A.sb, 0, none⟩), .pointer (some ⟨A.mp, 0, none⟩)] 29 (0, 0)) from (G9.out.block mb (heap_lt M8.out) (fun e => HNC.out _ _ _ (e ▸ M8.out))).trans M8.out)
          have B9 := hide (G9.out.below B8.out HBB.out X8.out.size)
          go_roundw
          case rel => exact ⟨i + 1, Z, _, _, n + 1, HLT.out, by go_num, I8.out.mono (by have := HR2.out; omega), F8.out, by have := N4.out; omega, by have h := L9.out; rw [HIS.out] at h; rw [T8.out, T5.out]; exact h, X9.out, M9.out, B9.out⟩
          case measure => have := HLT.out; simp [intOf]; omega
        · have h2 : freeN U.L = 2 := by have := I5.out.free; omega
          rw [show decide ((freeN U.L : Int) < 3) = true from decide_eq_true (by omega)] at HSO
          obtain ⟨c, k1, k2, k3, k4, k5⟩ := inv_win I5.out h2
          have HWN := hide (fun W (hW : MvAt W B0 A 9 5 U) => win17_yes I5.out.ok (by have := HM12.out; have := HLT.out; have := HR2.out; omega) (by decide) (by decide) (by decide) none 0 [] (by decide) (by decide) c k2 k3 k4 k1 W hW (.inl ⟨rfl, rfl⟩))
          unfold Empty17 at HWN
          rw [show (([] : List Int).length) = 0 from rfl] at HWN
          have K5 := hide k5
          have HST := hide (show r = 0 ∨ (r = 1 ∧ 1 ≤ U.lf) from by
            rcases S5.out with h | h | h
            · omega
            · exact .inl h
            · exact .inr h)
          clear h3 h2 k1 k2 k3 k4 k5
          have m1 := cell_of_block Mr.out 1
          go_wp2_with fail
          refine (HSO.out _ Xr.out).mono ?_
          rintro e w6 ⟨rfl, hb⟩
          have M6 := hide ((hb.block _ (heap_lt Mr.out)).trans Mr.out)
          have L6 := hide (Lr.out.below hb)
          have X6 := hide (Xr.out.below hb)
          have B6 := hide (Br.out.trans (hb.mono Xr.out.size))
          clear hb Xr Br Mr Lr m1
          go_wp2_with (refine rw_load rfl 29 (.tmp 4) rfl mb rfl 29 #[.pointer (some ⟨A.d, 0, none⟩), .pointer (some ⟨A.pp, 0, none⟩), .pointer (some ⟨A.sb, 0, none⟩), .pointer (some ⟨A.mp, 0, none⟩)] (0, 0) _ M6.out Tryz.underlying29 rfl (by kernel_rfl) ?_)
          refine (HWN.out _ X6.out).mono ?_
          rintro e w7 ⟨Y, rfl, hy, hc, hm, hb⟩
          have M7 := hide (hb.keep M6.out (by decide))
          have X7 := hide hm
          have B7 := hide (B6.out.trans hb.1)
          have HY := hide (And.intro hy hc)
          have HB7 := hide hb
          clear hy hc
          clear hb hm X6 B6 M6 HWN
          have L7 := hide (HB7.out.keepMap L6.out HBM.out)
          obtain ⟨i1, i2, i3⟩ := K5.out Y HY.out.1 HY.out.2
          have I7 := hide i1
          have S7 := hide i2
          have T7 := hide i3
          clear i1 i2 i3 L6 HB7 K5
          go_wp2_with fail
          go_roundw
          case rel => exact ⟨r + 1, freeX Y c, by rcases HST.out with h | h <;> omega, by go_num, I7.out.mono (by omega), by
            rcases S7.out with h | ⟨h, h'⟩
            · exact .inl h
            · rcases HST.out with e | ⟨e, e'⟩
              · exact .inr (.inr ⟨by omega, by omega⟩)
              · omega, by rw [T7.out]; exact T5.out, L7.out, X7.out, M7.out, B7.out⟩
          case measure => have := HR2.out; simp [intOf]; omega
    · obtain rfl : i = m := by omega
      clear him hge hjF hjI hjc HEL HWF HMZ
      obtain ⟨wq, hwq⟩ : ∃ wq, wq = wr := ⟨_, rfl⟩
      subst hwq
      obtain ⟨c0, hc0⟩ : ∃ c0, total V.M = c0 := ⟨_, rfl⟩
      have HC0 := hide hc0
      rw [hc0] at Lr
      clear hc0
      obtain ⟨r, hr⟩ : ∃ r, r = wq.heap.size := ⟨_, rfl⟩
      have HRQ := hide (show wq.heap.size ≤ r by omega)
      go_wp2_with (at_range; refine wpList_mapRange _ rfl _ 33 rfl 3 39 Keyed17 Tryz.underlying33 bm n c0 f rfl Lr.out ?_; intro w5 left0 hrg hle hgr hsz; have RG0 := hide hrg; have G5 := hide hgr; clear hrg hle hgr hsz)
      go_frame
      rw [← hr] at RG0 ⊢
      have BB5 := hide (show Below wq.heap.size wq w5 from ⟨G5.out.os, G5.out.tape, G5.out.output, G5.out.size, fun j hj => G5.out.block j hj (by simp)⟩)
      clear G5 hr
      go_loopw [] (fun W => ∃ (left : Lit → Bool) (cnt : Nat), RgIs W Tryz.prog 3 bm r cnt f left ∧ Below wq.heap.size wq W) (fun W => W.rangeLeft bm r)
      case atStart => exact ⟨left0, c0, RG0.out, BB5.out⟩
      case round =>
        obtain ⟨left, cnt, hrg, hb5⟩ := hrel
        have RGI := hide hrg
        have BW := hide hb5
        have HRL := hide hrg.rangeLeft
        clear hrg hb5 RG0 BB5
        go_wp2_with (at_next; refine wpList_mapNext _ rfl _ rfl 3 .i64 Keyed17 Tryz.underlying3 bm r cnt f left rfl RGI.out ?_ ?_)
        · intro hc0 hl0
          have Xf := hide (Xr.out.below BW.out)
          have Mf := hide ((BW.out.block _ (heap_lt Mr.out)).trans Mr.out)
          have Lf := hide (Lr.out.below BW.out)
          have Bf := hide (Br.out.trans (BW.out.mono Xr.out.size))
          have HSI := hide (fun W (hW : MvAt W B0 A 9 5 V) => sins_any A.p A.q A.B A.G V.S W hW.st.drive.chip)
          rw [I4.out.ok.heal.sins] at HSI
          have HTO := hide (fun W (hW : MvAt W B0 A 9 5 V) => total_any hW.mp)
          rw [HC0.out] at HTO
          have hlen := fun ty => Lf.out.len Tryz.underlying33 ty
          have m3 := cell_of_block Mf.out 3
          clear hc0 hl0
          go_wp2_with fail
          refine (HSI.out _ Xf.out).mono ?_
          rintro e w6 ⟨rfl, rfl⟩
          go_wp2_with fail
          refine (HTO.out _ Xf.out).mono ?_
          rintro e w6 ⟨rfl, rfl⟩
          go_wp2_with fail
          go_ret
          exact ⟨rfl, Bf.out⟩
        · intro x vx w1 cnt' hwx hlx hfx hrg1 hlt1 hg1 hs1 hen
          have hxi := wf_i64 hwx
          rw [F4.out x hxi.1 hxi.2] at hfx
          obtain ⟨l, s, rfl, hs, rfl⟩ : ∃ l s : Nat, x = (l : Int) ∧ F l = some s ∧ vx = .int .u64 (s : Int) := by
            by_cases h0 : 0 ≤ x
            · rw [if_pos h0] at hfx
              cases e : F x.toNat with
              | none => rw [e] at hfx; cases hfx
              | some s => rw [e] at hfx; exact ⟨x.toNat, s, by omega, e, (Option.some.inj hfx).symm⟩
            · rw [if_neg h0] at hfx; cases hfx
          obtain ⟨s1, s2, s3⟩ := I4.out.sm l s hs
          obtain ⟨xy, hxy⟩ := Option.isSome_iff_exists.mp s2
          obtain ⟨k2, j2, rfl, g2, g3, g4, g5, g6, g7⟩ := has_read17 I4.out.ok hxy
          rw [s3] at g4 g5 g7
          dsimp only at g4 g5 g7
          have hl10 : l < 10 := by have := getD_lt hxy; rw [I4.out.len] at this; exact this
          obtain ⟨s8, hs8⟩ : ∃ s8, s % 256 = s8 := ⟨_, rfl⟩
          have HX8 := hide (show l < 256 ∧ s8 < 256 by omega)
          have HWB := hide (show IntKind.u8.wrap (l : Int) = (l : Int) ∧ IntKind.u8.wrap (s : Int) = (s8 : Int) by rw [u8_wrap, u8_wrap, hs8, Nat.mod_eq_of_lt (show l < 256 by omega)]; exact ⟨rfl, rfl⟩)
          have htb := txt17_bs l s
          rw [hs8] at htb
          have HFU := hide (fun W => full16_any ⟨#[UInt8.ofNat l, UInt8.ofNat s8]⟩ (show 2 ≤ 1000000 by decide) 32 (by decide) W)
          rw [← htb] at HFU
          clear htb s3
          generalize txt17 l s = td at *
          have HAT := hide (fun W (hW : MvAt W B0 A 9 5 V) => at_some hW.mp l (by rw [I4.out.len]; exact hl10) (k2 : Int) (j2 : Int) hxy)
          have HRD := hide (fun W (hW : MvAt W B0 A 9 5 V) => dread_tag (k2 : Int) (j2 : Int) 1 l s 0 1 g4.1 g4.2.1 g4.2.2 td (by rw [g5]; decide) g6 g7 W hW.st.drive)
          unfold pageC at HRD
          have ho := only_of_grown hg1
          have B1 := hide (ho.below BW.out HRQ.out BW.out.size)
          have RI1 := hide hrg1
          have HLTC := hide hlt1
          have X1 := hide (Xr.out.below B1.out)
          have M1 := hide ((B1.out.block _ (heap_lt Mr.out)).trans Mr.out)
          clear hfx hlx hwx hrg1 hlt1 hg1 hs1 ho hs RGI BW hxi s1 s2 hxy g2 g3 g4 g5 g6 g7 hl10 hs8
          have m3 := cell_of_block M1.out 3
          go_wp2_with fail
          clear hen
          refine (HAT.out _ X1.out).mono ?_
          rintro e w10 ⟨rfl, hb⟩
          have M10 := hide ((hb.block _ (heap_lt M1.out)).trans M1.out)
          have RI10 := hide (RI1.out.below hb)
          have X10 := hide (X1.out.below hb)
          have B10 := hide (B1.out.trans (hb.mono B1.out.size))
          clear hb X1 B1 RI1 M1 m3 HAT
          go_upto_region 24 with (refine rw_store rfl 41 (.tmp 14) (.tmp 92) rfl w10.heap.size rfl #[.int .i64 (k2 : Int), .int .i64 (j2 : Int)] rfl _ (heap_new w10 _) (by kernel_rfl) rfl (by simp [Value.oneCell']) ?_)
          have XB := hide (heap_new w10 (.cells #[.int .i64 0, .int .i64 0] 41))
          have hal := (Below.refl w10.heap.size w10).alloc (Nat.le_refl _) (.cells #[.int .i64 0, .int .i64 0] 41)
          have hbb := setRow_below (hal.trans (Below.refl _ _)) (Nat.le_refl _) hal.size (#[.int .i64 (k2 : Int), .int .i64 (j2 : Int)] : Array Value)
          have C11 := hide (setRow_same (cs := (#[.int .i64 (k2 : Int), .int .i64 (j2 : Int)] : Array Value)) XB.out)
          have M11 := hide ((hbb.block _ (heap_lt M10.out)).trans M10.out)
          have RI11 := hide (RI10.out.below hbb)
          have X11 := hide (X10.out.below hbb)
          have B11 := hide (B10.out.trans (hbb.mono B10.out.size))
          clear hal hbb XB X10 B10 RI10 M10
          generalize (w10.alloc (.cells #[.int .i64 0, .int .i64 0] 41)).setRow w10.heap.size (#[.int .i64 (k2 : Int), .int .i64 (j2 : Int)] : Array Value) = w11 at *
          generalize w10.heap.size = cb at *
          (try rw [show ∀ (a : Act) (v : Value), a.put none v = a from fun _ _ => rfl])
          have m0 := cell_of_block M11.out 0
          have c0' := cell_of_block C11.out 0
          have c1' := cell_of_block C11.out 1
          go_wp2_with fail
          refine (HRD.out _ X11.out).mono ?_
          rintro e w12 ⟨rfl, hb⟩
          have M12 := hide ((hb.block _ (heap_lt M11.out)).trans M11.out)
          have C12 := hide ((hb.block _ (heap_lt C11.out)).trans C11.out)
          have RI12 := hide (RI11.out.below hb)
          have X12 := hide (X11.out.below hb)
          have B12 := hide (B11.out.trans (hb.mono B11.out.size))
          clear hb X11 B11 RI11 M11 C11 m0 c0' c1' HRD
          go_upto_region 25 with (refine rw_store rfl 49 (.tmp 16) (.tmp 102) rfl w12.heap.size rfl #[.int .i64 4, .int .u8 1, .int .i64 (l : Int), .int .u64 (s : Int), .int .i64 0, .int .i64 1, .string (bs td)] rfl _ (heap_new w12 _) (by kernel_rfl) rfl (by simp [Value.oneCell']) ?_)
          have XB := hide (heap_new w12 (.cells #[.int .i64 0, .int .u8 0, .int .i64 0, .int .u64 0, .int .i64 0, .int .i64 0, .string ⟨#[]⟩] 49))
          have hal := (Below.refl w12.heap.size w12).alloc (Nat.le_refl _) (.cells #[.int .i64 0, .int .u8 0, .int .i64 0, .int .u64 0, .int .i64 0, .int .i64 0, .string ⟨#[]⟩] 49)
          have hbb := setRow_below (hal.trans (Below.refl _ _)) (Nat.le_refl _) hal.size (#[.int .i64 4, .int .u8 1, .int .i64 (l : Int), .int .u64 (s : Int), .int .i64 0, .int .i64 1, .string (bs td)] : Array Value)
          have P13 := hide (setRow_same (cs := (#[.int .i64 4, .int .u8 1, .int .i64 (l : Int), .int .u64 (s : Int), .int .i64 0, .int .i64 1, .string (bs td)] : Array Value)) XB.out)
          have M13 := hide ((hbb.block _ (heap_lt M12.out)).trans M12.out)
          have C13 := hide ((hbb.block _ (heap_lt C12.out)).trans C12.out)
          have RI13 := hide (RI12.out.below hbb)
          have X13 := hide (X12.out.below hbb)
          have B13 := hide (B12.out.trans (hbb.mono B12.out.size))
          clear hal hbb XB X12 B12 RI12 M12 C12
          generalize (w12.alloc (.cells #[.int .i64 0, .int .u8 0, .int .i64 0, .int .u64 0, .int .i64 0, .int .i64 0, .string ⟨#[]⟩] 49)).setRow w12.heap.size (#[.int .i64 4, .int .u8 1, .int .i64 (l : Int), .int .u64 (s : Int), .int .i64 0, .int .i64 1, .string (bs td)] : Array Value) = w13 at *
          generalize w12.heap.size = pb at *
          (try rw [show ∀ (a : Act) (v : Value), a.put none v = a from fun _ _ => rfl])
          have RI0 := hide (RI13.out.below ((Below.refl _ w13).drew))
          have P0 := hide (show w13.drew.heap[pb]? = _ from P13.out)
          have B0' := hide (show Below wq.heap.size wq w13.drew from B13.out.drew)
          clear RI13 P13 B13 X13 M13 C13
          refine wp_region_held_drew (S := (fun W => W.heap[pb]? = some (.cells #[.int .i64 4, .int .u8 1, .int .i64 (l : Int), .int .u64 (s : Int), .int .i64 0, .int .i64 1, .string (bs td)] 49 (0, 0)))) (by kernel_rfl) (P0.out) (fun hHeld => ?_)
          generalize w13.drew = v0 at *
          refine wpAnyH_take (i := 0) (oi := { dst := some 104, op := Op.move (Operand.tmp 15), type := 4, pos := "law.go:89", after := #[], guard := none }) (v := ?_) rfl (by kernel_rfl) (by kernel_rfl) (by kernel_rfl) (fun _ _ _ h => h) (Or.inl ⟨by kernel_rfl, ?_⟩) hHeld ?_
          rotate_left
          · (intro w hSw; (try dsimp only at hSw); have p0 := cell_of_block hSw 0; have p1 := cell_of_block hSw 1; have p2 := cell_of_block hSw 2; have p3 := cell_of_block hSw 3; have p4 := cell_of_block hSw 4; have p5 := cell_of_block hSw 5; have p6 := cell_of_block hSw 6; go_simp); try with_reducible rfl
          try simp only [Act.put, List.setIfInBounds_toArray, List.set_cons_zero, List.set_cons_succ]
          refine wpAnyH_take (i := 1) (oi := { dst := some 105, op := Op.unOp UnOp.not 4 (Operand.tmp 104), type := 4, pos := "law.go:89", after := #[{ on := 0, ground := Ground.data }], guard := none }) (v := ?_) rfl (by kernel_rfl) (by kernel_rfl) (by kernel_rfl) (fun _ _ _ h => h) (Or.inl ⟨by kernel_rfl, ?_⟩) hHeld ?_
          rotate_left
          · (intro w hSw; (try dsimp only at hSw); have p0 := cell_of_block hSw 0; have p1 := cell_of_block hSw 1; have p2 := cell_of_block hSw 2; have p3 := cell_of_block hSw 3; have p4 := cell_of_block hSw 4; have p5 := cell_of_block hSw 5; have p6 := cell_of_block hSw 6; go_simp); try with_reducible rfl
          try simp only [Act.put, List.setIfInBounds_toArray, List.set_cons_zero, List.set_cons_succ]
          refine wpAnyH_take (i := 2) (oi := { dst := some 106, op := Op.move (Operand.tmp 105), type := 4, pos := "law.go:89", after := #[{ on := 1, ground := Ground.data }], guard := none }) (v := ?_) rfl (by kernel_rfl) (by kernel_rfl) (by kernel_rfl) (fun _ _ _ h => h) (Or.inl ⟨by kernel_rfl, ?_⟩) hHeld ?_
          rotate_left
          · (intro w hSw; (try dsimp only at hSw); have p0 := cell_of_block hSw 0; have p1 := cell_of_block hSw 1; have p2 := cell_of_block hSw 2; have p3 := cell_of_block hSw 3; have p4 := cell_of_block hSw 4; have p5 := cell_of_block hSw 5; have p6 := cell_of_block hSw 6; go_simp); try with_reducible rfl
          try simp only [Act.put, List.setIfInBounds_toArray, List.set_cons_zero, List.set_cons_succ]
          refine wpAnyH_take (i := 3) (oi := { dst := some 107, op := Op.move (Operand.tmp 17), type := 35, pos := "law.go:89", after := #[{ on := 2, ground := Ground.guard }], guard := some (2, false) }) (v := ?_) rfl (by kernel_rfl) (by kernel_rfl) (by kernel_rfl) (fun _ _ _ h => h) (Or.inl ⟨by kernel_rfl, ?_⟩) hHeld ?_
          rotate_left
          · (intro w hSw; (try dsimp only at hSw); have p0 := cell_of_block hSw 0; have p1 := cell_of_block hSw 1; have p2 := cell_of_block hSw 2; have p3 := cell_of_block hSw 3; have p4 := cell_of_block hSw 4; have p5 := cell_of_block hSw 5; have p6 := cell_of_block hSw 6; go_simp); try with_reducible rfl
          try simp only [Act.put, List.setIfInBounds_toArray, List.set_cons_zero, List.set_cons_succ]
          refine wpAnyH_take (i := 4) (oi := { dst := some 108, op := Op.binOp BinOp.neq 35 (Operand.tmp 107) (Operand.const (Value.int IntKind.i64 0)) 35, type := 4, pos := "law.go:89", after := #[{ on := 3, ground := Ground.data }, { on := 2, ground := Ground.guard }], guard := some (2, false) }) (v := ?_) rfl (by kernel_rfl) (by kernel_rfl) (by kernel_rfl) (fun _ _ _ h => h) (Or.inl ⟨by kernel_rfl, ?_⟩) hHeld ?_
          rotate_left
          · (intro w hSw; (try dsimp only at hSw); have p0 := cell_of_block hSw 0; have p1 := cell_of_block hSw 1; have p2 := cell_of_block hSw 2; have p3 := cell_of_block hSw 3; have p4 := cell_of_block hSw 4; have p5 := cell_of_block hSw 5; have p6 := cell_of_block hSw 6; go_simp); try with_reducible rfl
          try simp only [Act.put, List.setIfInBounds_toArray, List.set_cons_zero, List.set_cons_succ]
          refine wpAnyH_take (i := 5) (oi := { dst := some 109, op := Op.pick (Operand.tmp 106) (Operand.const (Value.bool true)) (Operand.tmp 108), type := 4, pos := "law.go:89", after := #[{ on := 2, ground := Ground.data }, { on := 4, ground := Ground.data }], guard := none }) (v := ?_) rfl (by kernel_rfl) (by kernel_rfl) (by kernel_rfl) (fun _ _ _ h => h) (Or.inl ⟨by kernel_rfl, ?_⟩) hHeld ?_
          rotate_left
          · (intro w hSw; (try dsimp only at hSw); have p0 := cell_of_block hSw 0; have p1 := cell_of_block hSw 1; have p2 := cell_of_block hSw 2; have p3 := cell_of_block hSw 3; have p4 := cell_of_block hSw 4; have p5 := cell_of_block hSw 5; have p6 := cell_of_block hSw 6; go_simp); try with_reducible rfl
          try simp only [Act.put, List.setIfInBounds_toArray, List.set_cons_zero, List.set_cons_succ]
          refine wpAnyH_take (i := 6) (oi := { dst := some 110, op := Op.move (Operand.tmp 109), type := 4, pos := "law.go:89", after := #[{ on := 5, ground := Ground.data }, { on := 2, ground := Ground.chain }], guard := none }) (v := ?_) rfl (by kernel_rfl) (by kernel_rfl) (by kernel_rfl) (fun _ _ _ h => h) (Or.inl ⟨by kernel_rfl, ?_⟩) hHeld ?_
          rotate_left
          · (intro w hSw; (try dsimp only at hSw); have p0 := cell_of_block hSw 0; have p1 := cell_of_block hSw 1; have p2 := cell_of_block hSw 2; have p3 := cell_of_block hSw 3; have p4 := cell_of_block hSw 4; have p5 := cell_of_block hSw 5; have p6 := cell_of_block hSw 6; go_simp); try with_reducible rfl
          try simp only [Act.put, List.setIfInBounds_toArray, List.set_cons_zero, List.set_cons_succ]
          refine wpAnyH_take (i := 7) (oi := { dst := some 111, op := Op.fieldAddr 49 (Operand.tmp 16) 1, type := 0, pos := "law.go:89", after := #[{ on := 6, ground := Ground.guard }], guard := some (6, false) }) (v := ?_) rfl (by kernel_rfl) (by kernel_rfl) (by kernel_rfl) (fun _ _ _ h => h) (Or.inl ⟨by kernel_rfl, ?_⟩) hHeld ?_
          rotate_left
          · (intro w hSw; (try dsimp only at hSw); have p0 := cell_of_block hSw 0; have p1 := cell_of_block hSw 1; have p2 := cell_of_block hSw 2; have p3 := cell_of_block hSw 3; have p4 := cell_of_block hSw 4; have p5 := cell_of_block hSw 5; have p6 := cell_of_block hSw 6; go_simp); try with_reducible rfl
          try simp only [Act.put, List.setIfInBounds_toArray, List.set_cons_zero, List.set_cons_succ]
          refine wpAnyH_take (i := 8) (oi := { dst := some 112, op := Op.fieldAddr 47 (Operand.tmp 111) 1, type := 0, pos := "law.go:89", after := #[{ on := 7, ground := Ground.data }, { on := 6, ground := Ground.guard }], guard := some (6, false) }) (v := ?_) rfl (by kernel_rfl) (by kernel_rfl) (by kernel_rfl) (fun _ _ _ h => h) (Or.inl ⟨by kernel_rfl, ?_⟩) hHeld ?_
          rotate_left
          · (intro w hSw; (try dsimp only at hSw); have p0 := cell_of_block hSw 0; have p1 := cell_of_block hSw 1; have p2 := cell_of_block hSw 2; have p3 := cell_of_block hSw 3; have p4 := cell_of_block hSw 4; have p5 := cell_of_block hSw 5; have p6 := cell_of_block hSw 6; go_simp); try with_reducible rfl
          try simp only [Act.put, List.setIfInBounds_toArray, List.set_cons_zero, List.set_cons_succ]
          refine wpAnyH_take (i := 9) (oi := { dst := some 113, op := Op.load 3 (Operand.tmp 112), type := 3, pos := "law.go:89", after := #[{ on := 8, ground := Ground.data }, { on := 6, ground := Ground.guard }], guard := some (6, false) }) (v := ?_) rfl (by kernel_rfl) (by kernel_rfl) (by kernel_rfl) (fun _ _ _ h => h) (Or.inl ⟨by kernel_rfl, ?_⟩) hHeld ?_
          rotate_left
          · (intro w hSw; (try dsimp only at hSw); have p0 := cell_of_block hSw 0; have p1 := cell_of_block hSw 1; have p2 := cell_of_block hSw 2; have p3 := cell_of_block hSw 3; have p4 := cell_of_block hSw 4; have p5 := cell_of_block hSw 5; have p6 := cell_of_block hSw 6; go_simp); try with_reducible rfl
          try simp only [Act.put, List.setIfInBounds_toArray, List.set_cons_zero, List.set_cons_succ]
          refine wpAnyH_take (i := 10) (oi := { dst := some 114, op := Op.move (Operand.tmp 12), type := 3, pos := "law.go:89", after := #[{ on := 6, ground := Ground.guard }], guard := some (6, false) }) (v := ?_) rfl (by kernel_rfl) (by kernel_rfl) (by kernel_rfl) (fun _ _ _ h => h) (Or.inl ⟨by kernel_rfl, ?_⟩) hHeld ?_
          rotate_left
          · (intro w hSw; (try dsimp only at hSw); have p0 := cell_of_block hSw 0; have p1 := cell_of_block hSw 1; have p2 := cell_of_block hSw 2; have p3 := cell_of_block hSw 3; have p4 := cell_of_block hSw 4; have p5 := cell_of_block hSw 5; have p6 := cell_of_block hSw 6; go_simp); try with_reducible rfl
          try simp only [Act.put, List.setIfInBounds_toArray, List.set_cons_zero, List.set_cons_succ]
          refine wpAnyH_take (i := 11) (oi := { dst := some 115, op := Op.binOp BinOp.neq 3 (Operand.tmp 113) (Operand.tmp 114) 3, type := 4, pos := "law.go:89", after := #[{ on := 9, ground := Ground.data }, { on := 10, ground := Ground.data }, { on := 6, ground := Ground.guard }], guard := some (6, false) }) (v := ?_) rfl (by kernel_rfl) (by kernel_rfl) (by kernel_rfl) (fun _ _ _ h => h) (Or.inl ⟨by kernel_rfl, ?_⟩) hHeld ?_
          rotate_left
          · (intro w hSw; (try dsimp only at hSw); have p0 := cell_of_block hSw 0; have p1 := cell_of_block hSw 1; have p2 := cell_of_block hSw 2; have p3 := cell_of_block hSw 3; have p4 := cell_of_block hSw 4; have p5 := cell_of_block hSw 5; have p6 := cell_of_block hSw 6; go_simp); try with_reducible rfl
          try simp only [Act.put, List.setIfInBounds_toArray, List.set_cons_zero, List.set_cons_succ]
          refine wpAnyH_take (i := 12) (oi := { dst := some 116, op := Op.pick (Operand.tmp 110) (Operand.const (Value.bool true)) (Operand.tmp 115), type := 4, pos := "law.go:89", after := #[{ on := 6, ground := Ground.data }, { on := 11, ground := Ground.data }], guard := none }) (v := ?_) rfl (by kernel_rfl) (by kernel_rfl) (by kernel_rfl) (fun _ _ _ h => h) (Or.inl ⟨by kernel_rfl, ?_⟩) hHeld ?_
          rotate_left
          · (intro w hSw; (try dsimp only at hSw); have p0 := cell_of_block hSw 0; have p1 := cell_of_block hSw 1; have p2 := cell_of_block hSw 2; have p3 := cell_of_block hSw 3; have p4 := cell_of_block hSw 4; have p5 := cell_of_block hSw 5; have p6 := cell_of_block hSw 6; go_simp); try with_reducible rfl
          try simp only [Act.put, List.setIfInBounds_toArray, List.set_cons_zero, List.set_cons_succ]
          refine wpAnyH_take (i := 13) (oi := { dst := some 117, op := Op.move (Operand.tmp 116), type := 4, pos := "law.go:89", after := #[{ on := 12, ground := Ground.data }, { on := 6, ground := Ground.chain }], guard := none }) (v := ?_) rfl (by kernel_rfl) (by kernel_rfl) (by kernel_rfl) (fun _ _ _ h => h) (Or.inl ⟨by kernel_rfl, ?_⟩) hHeld ?_
          rotate_left
          · (intro w hSw; (try dsimp only at hSw); have p0 := cell_of_block hSw 0; have p1 := cell_of_block hSw 1; have p2 := cell_of_block hSw 2; have p3 := cell_of_block hSw 3; have p4 := cell_of_block hSw 4; have p5 := cell_of_block hSw 5; have p6 := cell_of_block hSw 6; go_simp); try with_reducible rfl
          try simp only [Act.put, List.setIfInBounds_toArray, List.set_cons_zero, List.set_cons_succ]
          refine wpAnyH_take (i := 14) (oi := { dst := some 118, op := Op.fieldAddr 49 (Operand.tmp 16) 1, type := 0, pos := "law.go:89", after := #[{ on := 13, ground := Ground.guard }], guard := some (13, false) }) (v := ?_) rfl (by kernel_rfl) (by kernel_rfl) (by kernel_rfl) (fun _ _ _ h => h) (Or.inl ⟨by kernel_rfl, ?_⟩) hHeld ?_
          rotate_left
          · (intro w hSw; (try dsimp only at hSw); have p0 := cell_of_block hSw 0; have p1 := cell_of_block hSw 1; have p2 := cell_of_block hSw 2; have p3 := cell_of_block hSw 3; have p4 := cell_of_block hSw 4; have p5 := cell_of_block hSw 5; have p6 := cell_of_block hSw 6; go_simp); try with_reducible rfl
          try simp only [Act.put, List.setIfInBounds_toArray, List.set_cons_zero, List.set_cons_succ]
          refine wpAnyH_take (i := 15) (oi := { dst := some 119, op := Op.fieldAddr 47 (Operand.tmp 118) 2, type := 0, pos := "law.go:89", after := #[{ on := 14, ground := Ground.data }, { on := 13, ground := Ground.guard }], guard := some (13, false) }) (v := ?_) rfl (by kernel_rfl) (by kernel_rfl) (by kernel_rfl) (fun _ _ _ h => h) (Or.inl ⟨by kernel_rfl, ?_⟩) hHeld ?_
          rotate_left
          · (intro w hSw; (try dsimp only at hSw); have p0 := cell_of_block hSw 0; have p1 := cell_of_block hSw 1; have p2 := cell_of_block hSw 2; have p3 := cell_of_block hSw 3; have p4 := cell_of_block hSw 4; have p5 := cell_of_block hSw 5; have p6 := cell_of_block hSw 6; go_simp); try with_reducible rfl
          try simp only [Act.put, List.setIfInBounds_toArray, List.set_cons_zero, List.set_cons_succ]
          refine wpAnyH_take (i := 16) (oi := { dst := some 120, op := Op.load 39 (Operand.tmp 119), type := 39, pos := "law.go:89", after := #[{ on := 15, ground := Ground.data }, { on := 13, ground := Ground.guard }], guard := some (13, false) }) (v := ?_) rfl (by kernel_rfl) (by kernel_rfl) (by kernel_rfl) (fun _ _ _ h => h) (Or.inl ⟨by kernel_rfl, ?_⟩) hHeld ?_
          rotate_left
          · (intro w hSw; (try dsimp only at hSw); have p0 := cell_of_block hSw 0; have p1 := cell_of_block hSw 1; have p2 := cell_of_block hSw 2; have p3 := cell_of_block hSw 3; have p4 := cell_of_block hSw 4; have p5 := cell_of_block hSw 5; have p6 := cell_of_block hSw 6; go_simp); try with_reducible rfl
          try simp only [Act.put, List.setIfInBounds_toArray, List.set_cons_zero, List.set_cons_succ]
          refine wpAnyH_take (i := 17) (oi := { dst := some 121, op := Op.move (Operand.tmp 13), type := 39, pos := "law.go:89", after := #[{ on := 13, ground := Ground.guard }], guard := some (13, false) }) (v := ?_) rfl (by kernel_rfl) (by kernel_rfl) (by kernel_rfl) (fun _ _ _ h => h) (Or.inl ⟨by kernel_rfl, ?_⟩) hHeld ?_
          rotate_left
          · (intro w hSw; (try dsimp only at hSw); have p0 := cell_of_block hSw 0; have p1 := cell_of_block hSw 1; have p2 := cell_of_block hSw 2; have p3 := cell_of_block hSw 3; have p4 := cell_of_block hSw 4; have p5 := cell_of_block hSw 5; have p6 := cell_of_block hSw 6; go_simp); try with_reducible rfl
          try simp only [Act.put, List.setIfInBounds_toArray, List.set_cons_zero, List.set_cons_succ]
          refine wpAnyH_take (i := 18) (oi := { dst := some 122, op := Op.binOp BinOp.neq 39 (Operand.tmp 120) (Operand.tmp 121) 39, type := 4, pos := "law.go:89", after := #[{ on := 16, ground := Ground.data }, { on := 17, ground := Ground.data }, { on := 13, ground := Ground.guard }], guard := some (13, false) }) (v := ?_) rfl (by kernel_rfl) (by kernel_rfl) (by kernel_rfl) (fun _ _ _ h => h) (Or.inl ⟨by kernel_rfl, ?_⟩) hHeld ?_
          rotate_left
          · (intro w hSw; (try dsimp only at hSw); have p0 := cell_of_block hSw 0; have p1 := cell_of_block hSw 1; have p2 := cell_of_block hSw 2; have p3 := cell_of_block hSw 3; have p4 := cell_of_block hSw 4; have p5 := cell_of_block hSw 5; have p6 := cell_of_block hSw 6; go_simp); try with_reducible rfl
          try simp only [Act.put, List.setIfInBounds_toArray, List.set_cons_zero, List.set_cons_succ]
          refine wpAnyH_take (i := 19) (oi := { dst := some 123, op := Op.pick (Operand.tmp 117) (Operand.const (Value.bool true)) (Operand.tmp 122), type := 4, pos := "law.go:89", after := #[{ on := 13, ground := Ground.data }, { on := 18, ground := Ground.data }], guard := none }) (v := ?_) rfl (by kernel_rfl) (by kernel_rfl) (by kernel_rfl) (fun _ _ _ h => h) (Or.inl ⟨by kernel_rfl, ?_⟩) hHeld ?_
          rotate_left
          · (intro w hSw; (try dsimp only at hSw); have p0 := cell_of_block hSw 0; have p1 := cell_of_block hSw 1; have p2 := cell_of_block hSw 2; have p3 := cell_of_block hSw 3; have p4 := cell_of_block hSw 4; have p5 := cell_of_block hSw 5; have p6 := cell_of_block hSw 6; go_simp); try with_reducible rfl
          try simp only [Act.put, List.setIfInBounds_toArray, List.set_cons_zero, List.set_cons_succ]
          refine wpAnyH_take (i := 20) (oi := { dst := some 124, op := Op.move (Operand.tmp 123), type := 4, pos := "law.go:89", after := #[{ on := 19, ground := Ground.data }, { on := 13, ground := Ground.chain }], guard := none }) (v := ?_) rfl (by kernel_rfl) (by kernel_rfl) (by kernel_rfl) (fun _ _ _ h => h) (Or.inl ⟨by kernel_rfl, ?_⟩) hHeld ?_
          rotate_left
          · (intro w hSw; (try dsimp only at hSw); have p0 := cell_of_block hSw 0; have p1 := cell_of_block hSw 1; have p2 := cell_of_block hSw 2; have p3 := cell_of_block hSw 3; have p4 := cell_of_block hSw 4; have p5 := cell_of_block hSw 5; have p6 := cell_of_block hSw 6; go_simp); try with_reducible rfl
          try simp only [Act.put, List.setIfInBounds_toArray, List.set_cons_zero, List.set_cons_succ]
          refine wpAnyH_take (i := 21) (oi := { dst := some 125, op := Op.fieldAddr 49 (Operand.tmp 16) 2, type := 0, pos := "law.go:89", after := #[{ on := 20, ground := Ground.guard }], guard := some (20, false) }) (v := ?_) rfl (by kernel_rfl) (by kernel_rfl) (by kernel_rfl) (fun _ _ _ h => h) (Or.inl ⟨by kernel_rfl, ?_⟩) hHeld ?_
          rotate_left
          · (intro w hSw; (try dsimp only at hSw); have p0 := cell_of_block hSw 0; have p1 := cell_of_block hSw 1; have p2 := cell_of_block hSw 2; have p3 := cell_of_block hSw 3; have p4 := cell_of_block hSw 4; have p5 := cell_of_block hSw 5; have p6 := cell_of_block hSw 6; go_simp); try with_reducible rfl
          try simp only [Act.put, List.setIfInBounds_toArray, List.set_cons_zero, List.set_cons_succ]
          refine wpAnyH_take (i := 22) (oi := { dst := some 126, op := Op.load 9 (Operand.tmp 125), type := 9, pos := "law.go:89", after := #[{ on := 21, ground := Ground.data }, { on := 20, ground := Ground.guard }], guard := some (20, false) }) (v := ?_) rfl (by kernel_rfl) (by kernel_rfl) (by kernel_rfl) (fun _ _ _ h => h) (Or.inl ⟨by kernel_rfl, ?_⟩) hHeld ?_
          rotate_left
          · (intro w hSw; (try dsimp only at hSw); have p0 := cell_of_block hSw 0; have p1 := cell_of_block hSw 1; have p2 := cell_of_block hSw 2; have p3 := cell_of_block hSw 3; have p4 := cell_of_block hSw 4; have p5 := cell_of_block hSw 5; have p6 := cell_of_block hSw 6; go_simp); try with_reducible rfl
          try simp only [Act.put, List.setIfInBounds_toArray, List.set_cons_zero, List.set_cons_succ]
          refine wpAnyH_take (i := 23) (oi := { dst := some 127, op := Op.move (Operand.tmp 12), type := 3, pos := "law.go:89", after := #[{ on := 20, ground := Ground.guard }], guard := some (20, false) }) (v := ?_) rfl (by kernel_rfl) (by kernel_rfl) (by kernel_rfl) (fun _ _ _ h => h) (Or.inl ⟨by kernel_rfl, ?_⟩) hHeld ?_
          rotate_left
          · (intro w hSw; (try dsimp only at hSw); have p0 := cell_of_block hSw 0; have p1 := cell_of_block hSw 1; have p2 := cell_of_block hSw 2; have p3 := cell_of_block hSw 3; have p4 := cell_of_block hSw 4; have p5 := cell_of_block hSw 5; have p6 := cell_of_block hSw 6; go_simp); try with_reducible rfl
          try simp only [Act.put, List.setIfInBounds_toArray, List.set_cons_zero, List.set_cons_succ]
          refine wpAnyH_take (i := 24) (oi := { dst := some 128, op := Op.convert 3 5 (Operand.tmp 127), type := 5, pos := "law.go:89", after := #[{ on := 23, ground := Ground.data }, { on := 20, ground := Ground.guard }], guard := some (20, false) }) (v := ?_) rfl (by kernel_rfl) (by kernel_rfl) (by kernel_rfl) (fun _ _ _ h => h) (Or.inl ⟨by kernel_rfl, ?_⟩) hHeld ?_
          rotate_left
          · (intro w hSw; (try dsimp only at hSw); have p0 := cell_of_block hSw 0; have p1 := cell_of_block hSw 1; have p2 := cell_of_block hSw 2; have p3 := cell_of_block hSw 3; have p4 := cell_of_block hSw 4; have p5 := cell_of_block hSw 5; have p6 := cell_of_block hSw 6; go_simp); try with_reducible rfl
          try simp only [Act.put, List.setIfInBounds_toArray, List.set_cons_zero, List.set_cons_succ]
          refine wpAnyH_take (i := 25) (oi := { dst := some 129, op := Op.move (Operand.tmp 13), type := 39, pos := "law.go:89", after := #[{ on := 20, ground := Ground.guard }], guard := some (20, false) }) (v := ?_) rfl (by kernel_rfl) (by kernel_rfl) (by kernel_rfl) (fun _ _ _ h => h) (Or.inl ⟨by kernel_rfl, ?_⟩) hHeld ?_
          rotate_left
          · (intro w hSw; (try dsimp only at hSw); have p0 := cell_of_block hSw 0; have p1 := cell_of_block hSw 1; have p2 := cell_of_block hSw 2; have p3 := cell_of_block hSw 3; have p4 := cell_of_block hSw 4; have p5 := cell_of_block hSw 5; have p6 := cell_of_block hSw 6; go_simp); try with_reducible rfl
          try simp only [Act.put, List.setIfInBounds_toArray, List.set_cons_zero, List.set_cons_succ]
          refine wpAnyH_take (i := 26) (oi := { dst := some 130, op := Op.convert 39 5 (Operand.tmp 129), type := 5, pos := "law.go:89", after := #[{ on := 25, ground := Ground.data }, { on := 20, ground := Ground.guard }], guard := some (20, false) }) (v := ?_) rfl (by kernel_rfl) (by kernel_rfl) (by kernel_rfl) (fun _ _ _ h => h) (Or.inl ⟨by kernel_rfl, ?_⟩) hHeld ?_
          rotate_left
          · (intro w hSw; (try dsimp only at hSw); have p0 := cell_of_block hSw 0; have p1 := cell_of_block hSw 1; have p2 := cell_of_block hSw 2; have p3 := cell_of_block hSw 3; have p4 := cell_of_block hSw 4; have p5 := cell_of_block hSw 5; have p6 := cell_of_block hSw 6; go_simp); try with_reducible rfl
          try simp only [Act.put, List.setIfInBounds_toArray, List.set_cons_zero, List.set_cons_succ]
          refine wpAnyH_ready (rs := [27]) (by kernel_rfl) (by simp) (AllReadyH.cons (o := { dst := some 131, op := Op.buildSlice 22 2 #[(0, Operand.tmp 128), (1, Operand.tmp 130)], type := 22, pos := "law.go:89", after := #[{ on := 24, ground := Ground.data }, { on := 26, ground := Ground.data }, { on := 20, ground := Ground.guard }], guard := some (20, false) }) rfl (fun K hK => ?_) AllReadyH.nil)
          have hOld := hide hHeld
          clear hHeld
          go_simp
          try rw [HWB.out.1]
          try rw [HWB.out.2]
          obtain ⟨ob, hob⟩ : ∃ ob, ob = Obj.cells #[.int .u8 (l : Int), .int .u8 (s8 : Int)] 5 := ⟨_, rfl⟩
          try rw [← hob]
          have hal := (Below.refl v0.heap.size v0).alloc (Nat.le_refl _) ob
          have RI1 := hide (RI0.out.below hal)
          have P1 := hide ((hal.block _ (heap_lt P0.out)).trans P0.out)
          have B1 := hide (B0'.out.trans (hal.mono B0'.out.size))
          have hnb := heap_new v0 ob
          clear hal
          generalize v0.alloc ob = v1 at *
          generalize v0.heap.size = nb at *
          rw [hob] at hnb
          have N1 := hide hnb
          clear hob hnb
          (try go_wp2_with fail)
          refine hK.out _ _ (P1.out) (fun hHeld => ?_)
          clear hK K hOld
          try simp only [Act.put, List.setIfInBounds_toArray, List.set_cons_zero, List.set_cons_succ]
          refine wpAnyH_ready (rs := [28]) (by kernel_rfl) (by simp) (AllReadyH.cons (o := { dst := some 132, op := Op.convert 22 9 (Operand.tmp 131), type := 9, pos := "law.go:89", after := #[{ on := 27, ground := Ground.data }, { on := 20, ground := Ground.guard }], guard := some (20, false) }) rfl (fun K hK => ?_) AllReadyH.nil)
          have hOld := hide hHeld
          clear hHeld
          go_simp
          have hcv := byte_text2 v1 nb l s8 HX8.out.1 HX8.out.2 N1.out
          try simp only [hcv, Result.andThen]
          clear hcv
          (try go_wp2_with fail)
          refine hK.out _ _ (P1.out) (fun hHeld => ?_)
          clear hK K hOld
          try simp only [Act.put, List.setIfInBounds_toArray, List.set_cons_zero, List.set_cons_succ]
          refine wpAnyH_ready (rs := [29]) (by kernel_rfl) (by simp) (AllReadyH.cons (o := { dst := some 133, op := Op.call { callee := Callee.value (Operand.func 13), args := #[Operand.tmp 132, Operand.const (Value.int IntKind.i64 32)], argTypes := #[9, 3] }, type := 9, pos := "law.go:89", after := #[{ on := 28, ground := Ground.data }, { on := 20, ground := Ground.chain }, { on := 20, ground := Ground.guard }], guard := some (20, false) }) rfl (fun K hK => ?_) AllReadyH.nil)
          have hOld := hide hHeld
          clear hHeld
          go_simp
          refine (HFU.out _).mono ?_
          rintro e v2 ⟨rfl, hb⟩
          have RI2 := hide (RI1.out.below hb)
          have P2 := hide ((hb.block _ (heap_lt P1.out)).trans P1.out)
          have B2 := hide (B1.out.trans (hb.mono B1.out.size))
          clear hb
          (try go_wp2_with fail)
          refine hK.out _ _ (P2.out) (fun hHeld => ?_)
          clear hK K hOld
          try simp only [Act.put, List.setIfInBounds_toArray, List.set_cons_zero, List.set_cons_succ]
          refine wpAnyH_take (i := 30) (oi := { dst := some 134, op := Op.binOp BinOp.neq 9 (Operand.tmp 126) (Operand.tmp 133) 9, type := 4, pos := "law.go:89", after := #[{ on := 22, ground := Ground.data }, { on := 29, ground := Ground.data }, { on := 20, ground := Ground.guard }], guard := some (20, false) }) (v := ?_) rfl (by kernel_rfl) (by kernel_rfl) (by kernel_rfl) (fun _ _ _ h => h) (Or.inl ⟨by kernel_rfl, ?_⟩) hHeld ?_
          rotate_left
          · (intro w hSw; (try dsimp only at hSw); have p0 := cell_of_block hSw 0; have p1 := cell_of_block hSw 1; have p2 := cell_of_block hSw 2; have p3 := cell_of_block hSw 3; have p4 := cell_of_block hSw 4; have p5 := cell_of_block hSw 5; have p6 := cell_of_block hSw 6; go_simp); try with_reducible rfl
          try simp only [Act.put, List.setIfInBounds_toArray, List.set_cons_zero, List.set_cons_succ]
          refine wpAnyH_take (i := 31) (oi := { dst := some 135, op := Op.pick (Operand.tmp 124) (Operand.const (Value.bool true)) (Operand.tmp 134), type := 4, pos := "law.go:89", after := #[{ on := 20, ground := Ground.data }, { on := 30, ground := Ground.data }], guard := none }) (v := ?_) rfl (by kernel_rfl) (by kernel_rfl) (by kernel_rfl) (fun _ _ _ h => h) (Or.inl ⟨by kernel_rfl, ?_⟩) hHeld ?_
          rotate_left
          · (intro w hSw; (try dsimp only at hSw); have p0 := cell_of_block hSw 0; have p1 := cell_of_block hSw 1; have p2 := cell_of_block hSw 2; have p3 := cell_of_block hSw 3; have p4 := cell_of_block hSw 4; have p5 := cell_of_block hSw 5; have p6 := cell_of_block hSw 6; go_simp); try with_reducible rfl
          try simp only [Act.put, List.setIfInBounds_toArray, List.set_cons_zero, List.set_cons_succ]
          refine wpAnyH_done (by kernel_rfl) ?_ _
          clear hHeld
          go_wp2_with fail
          go_roundw
          case rel => exact ⟨_, cnt', RI2.out, B2.out⟩
          case measure => rw [RI2.out.rangeLeft, HRL.out]; exact HLTC.out

set_option maxRecDepth 100000 in
theorem levelWins_lifted (os : Os) (started : os.Started) (H : Type) (enc : TypeId × Value → H) :
    ReturnsInHanded {} Tryz.checked os 3 .any (Rows.levelWinsSpec.pre6 enc Tryz.prog Tryz.f3 Rows.levelWinsRow.domain false) (Rows.levelWinsSpec.post enc Tryz.prog Tryz.f3 false true false false) := by
  refine returnsInHanded_of_change (C := Tryz.checked) own started (by kernel_rfl) Tryz.func3
    (ChangeSpec.witness6 (enc := enc) (C := Tryz.checked) false ⟨#[], #[.slice none 0 0], []⟩ 8 (by kernel_rfl) (by kernel_rfl) (by kernel_rfl) (by kernel_rfl)) ?_
  intro W base args ds gs before hval0 hW _ _
  have hval : ∀ (j : Nat) t v, Tryz.f3.params[j]? = some t → args[j]? = some v → Value.okWide Tryz.prog W .any base t v := hval0
  have hW' := hW
  obtain ⟨p, q, hA0, hV, rfl, hfz, hnd⟩ := hW
  have hA : DataW.TrodAll enc Tryz.prog W 0 (fun _ => true) true Tryz.f3.params.toList args.toList ds p := hA0
  rw [Tryz.params3] at hA hval
  obtain ⟨v0, vs0, d0, ds0, p0, q0, hargs, rfl, rfl, h0, r0⟩ := trodAll_cons hA
  obtain ⟨rfl, rfl, rfl⟩ := trodAll_nil r0
  obtain rfl : args = #[v0] := by cases args; simp_all
  obtain ⟨rfl, rfl⟩ := trodVars_none hV
  have z0 := open_nums_slice Tryz.underlying22 Tryz.underlying5 (by kernel_rfl) (hval 0 22 v0 rfl rfl) h0
  clear hA0 hval0
  refine (levelWins_walk v0 W z0).mono fun e W' ⟨he, hb⟩ => ?_
  subst he
  exact ⟨_, rfl, post_law laidOut (of_decide_eq_true (by kernel_rfl)) rfl rfl Tryz.underlying4 hW' ⟨rfl, rfl, rfl⟩ hb⟩

/-- THE STATEMENT -/
theorem levelWins_holds : Rows.LevelWinsSaid :=
  OpenClaim.holds_of_wide 3 Tryz.f3 rfl rfl rfl rfl rfl rfl rfl ⟨rfl, rfl, rfl, rfl, rfl⟩ rfl rfl rfl rfl rfl (by kernel_rfl) Tryz.func3 (by kernel_rfl)
    (of_decide_eq_true (by kernel_rfl)) (by unfold Func.isWrapper; first | (rw [if_pos (by decide +kernel)]; kernel_rfl) | (rw [if_neg (by decide +kernel)]; exact ⟨rfl, rfl⟩))
    (fun os started H enc _ => levelWins_lifted os started H enc)


end Go.Proofs.YtjfmkfhjbdiojaaGreat
