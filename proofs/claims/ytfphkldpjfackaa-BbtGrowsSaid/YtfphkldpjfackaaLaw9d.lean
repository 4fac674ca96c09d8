/-
  Layer 9: BbtGrows.
-/
import Derived.Test.YtfphkldpjfackaaRBbt2
namespace Go.Proofs.Ytfphkldpjfackaa
set_option linter.unusedSimpArgs false
set_option linter.unusedVariables false
open Go.RowKit Go.WideShapes Go.ChangeShapes Go.ChangeAt

/-- the list of bools in a cell of one's own -/
def BD (w W : World) (g n : Nat) (L : List UInt8) : Prop := W.heap[g]? = some (.cells (badC n L) 4 (0, 0)) ∧ w.heap.size ≤ g
theorem BD.kept {w W W' : World} {g n : Nat} {L : List UInt8} (h : BD w W g n L) (hb : Below W.heap.size W W') : BD w W' g n L := ⟨(hb.block _ (heap_lt h.1)).trans h.1, h.2⟩
theorem BD.rowOld {w W : World} {g n : Nat} {L : List UInt8} (h : BD w W g n L) (Z C : Array Value) : BD w ((W.alloc (.cells Z 26)).setRow W.heap.size C) g n L :=
  ⟨(row_old W Z C g (heap_lt h.1)).trans h.1, h.2⟩
theorem BD.alloc {w W : World} {g n : Nat} {L : List UInt8} (h : BD w W g n L) (o : Obj) : BD w (W.alloc o) g n L := ⟨(heap_old W o g (heap_lt h.1)).trans h.1, h.2⟩
theorem BD.other {w W : World} {g n b : Nat} {L : List UInt8} (h : BD w W g n L) (hn : g ≠ b) (C : Array Value) : BD w (W.setRow b C) g n L := ⟨(setRow_other W b g C hn).trans h.1, h.2⟩
theorem BD.set {w W : World} {g n : Nat} {L : List UInt8} (h : BD w W g n L) (hL : L.length = 32) (hn : n ≤ 256) (k : Nat) (hk : k < n) : BD w (W.setCell ⟨g, k, none⟩ (.bool true)) g n (withB L k) :=
  ⟨by rw [block_setCell h.1, badC_set n L hL hn k hk], h.2⟩
theorem RA.cellSet {w W : World} {b g : Nat} {C : Array Value} (h : RA w W b C) (hg : w.heap.size ≤ g) (hn : g ≠ b) (j : Nat) (v : Value) : RA w (W.setCell ⟨g, j, none⟩ v) b C :=
  ⟨by rw [block_setCell_other hn]; exact h.1, h.2.1, h.2.2.setCell (by exact hg) v⟩
set_option maxRecDepth 100000 in
set_option maxHeartbeats 1000000 in
theorem bbtGrows_walk (bl : Int) (bl0 : -9223372036854775808 ≤ bl) (bl1 : bl ≤ 9223372036854775807) (zs : List Int) (hzs : ∀ z ∈ zs, (Lit.int .i64 z).wf = true) (a : Option Addr) (cap : Nat) (hcap : zs.length ≤ cap) (hmaxl : zs.length ≤ 9223372036854775807) (sz : Int) (sz0 : -9223372036854775808 ≤ sz) (sz1 : sz ≤ 9223372036854775807) (w : World)
    (hat : ∀ i, i < zs.length → ∃ b off, a = some ⟨b, off, none⟩ ∧ b < w.heap.size ∧ w.cell? ⟨b, off + i, none⟩ = some (.int .i64 (zs.getD i 0))) :
    Calls Try.prog 3 #[.int .i64 bl, .slice a zs.length cap, .int .i64 sz] w fun e w' => e = .returned (.bool true) ∧ Below w.heap.size w w' := by
  have HZS := hide hzs
  have HAT := hide hat
  clear hzs hat
  obtain ⟨N, hN⟩ : ∃ N : Nat, N = (1 + max 0 bl % 256).toNat := ⟨_, rfl⟩
  have hN1 : 1 ≤ N := by omega
  have hN2 : N ≤ 256 := by omega
  have HNI := hide (show (1 : Int) + max 0 bl % 256 = (N : Int) by omega)
  clear hN
  obtain ⟨n, hn⟩ : ∃ n : Nat, min zs.length 30 = n := ⟨_, rfl⟩
  have hn1 : n ≤ zs.length := by omega
  have hn2 : n ≤ 30 := by omega
  have hmI : (min (zs.length : Int) 30) = (n : Int) := by omega
  have hcI : (n : Int) ≤ (cap : Int) := by omega
  have HNEW := hide (fun W => new_any (N : Int) W)
  rw [if_pos (by omega), if_pos (by omega)] at HNEW
  have HNE0 := hide (fun W => new_any bl W)
  have HAZ := hide (fun W => alloc_T W)
  have HIZ := hide (bbt_info 0 0 zeros32 zeros_len)
  have HOZ := hide (bbtC_one 0 0 zeros32)
  have HBLZ := hide (fun W => blocks_any 0 0 zeros32 zeros_len W)
  obtain ⟨Z, hZ⟩ : ∃ Z, Z = bbtC 0 0 zeros32 := ⟨_, rfl⟩
  have HZE := hide hZ
  have HSS := hide (fun (v m : Int) (S : List UInt8) (h : S.length = 32) => show Z.size = (bbtC v m S).size from HZE.out ▸ bbt_sizes 0 0 v m zeros32 S zeros_len h)
  rw [← hZ] at HAZ HIZ HOZ HBLZ HNE0
  clear hZ
  go_enter Try.func3, Try.ntmps3
  go_upto_region 1 with (fail)
  obtain ⟨m0, e0, hnew, hcase⟩ : ∃ (m0 e0 : Int), (∀ W, Calls Try.prog 6 #[.int .i64 bl] W fun e w' => e = .returned (.tuple #[.agg (bbtC 0 m0 zeros32), .int .i64 e0]) ∧ Below W.heap.size W w') ∧ ((1 ≤ bl ∧ bl ≤ 256 ∧ e0 = 0) ∨ (¬ (1 ≤ bl ∧ bl ≤ 256) ∧ e0 = 2 ∧ m0 = 0)) := by
    by_cases hok : 1 ≤ bl ∧ bl ≤ 256
    · refine ⟨bl, 0, fun W => ?_, .inl ⟨hok.1, hok.2, rfl⟩⟩
      have h := HNE0.out W
      rw [if_pos hok, if_pos hok] at h
      exact h
    · refine ⟨0, 2, fun W => ?_, .inr ⟨hok, rfl, rfl⟩⟩
      have h := HNE0.out W
      rw [if_neg hok, if_neg hok, HZE.out] at h
      exact h
  have HNE := hide hnew
  have HCASE := hide hcase
  have HIC := hide (bbt_info 0 m0 zeros32 zeros_len)
  have HOC := hide (bbtC_one 0 m0 zeros32)
  have HSC := hide (HSS.out 0 m0 zeros32 zeros_len)
  have HBLC := hide (fun W => blocks_any 0 m0 zeros32 zeros_len W)
  clear hnew hcase HNE0
  generalize bbtC 0 m0 zeros32 = C at *
  go_wp2_with fail
  refine (HNE.out _).mono ?_
  rintro e w1 ⟨rfl, hb1⟩
  have HR1 := hide (RA.row hb1 Z C)
  go_upto_region 2 with (first | ((with_reducible show wpList _ _ _ _ _ w1); refine wpList_alloc0 w1 rfl 26 rfl (.pointer (some ⟨w1.heap.size, 0, none⟩)) (w1.alloc (.cells Z 26)) (HAZ.out w1) ?_) | ((with_reducible show wpList _ _ _ _ _ (World.alloc _ _)); refine wpList_storeR rfl 26 (.tmp 7) (.tmp 27) rfl w1.heap.size rfl C rfl Z (heap_new w1 _) HIC.out HSC.out HOC.out ?_))
  generalize (w1.alloc (.cells Z 26)).setRow w1.heap.size C = u1 at *
  generalize w1.heap.size = b7 at *
  clear hb1 HNE HSC HOC
  go_cut [50] from 29 to 50 (fun s wx => s = .bool false ∧ Below w.heap.size w wx)
  case first =>
    rcases HCASE.out with ⟨hok1, hok2, rfl⟩ | ⟨hok, rfl, rfl⟩
    · clear HCASE HBLC
      go_wp2_with fail
      go_meet
      exact ⟨rfl, HR1.out.2.2⟩
    · clear HCASE
      by_cases hok1 : 1 ≤ bl
      · have hok2 : ¬ bl ≤ 256 := by omega
        clear hok
        go_wp2_with (first | ((with_reducible show wpList _ _ _ _ _ u1); refine load_T_g (by rfl) (.tmp 7) rfl b7 rfl C HR1.out.1 HIC.out ?_))
        refine (HBLC.out _).mono ?_
        rintro e w2 ⟨rfl, hb2⟩
        have HR2 := hide (HR1.out.kept hb2)
        go_wp2_with fail
        go_meet
        exact ⟨rfl, HR2.out.2.2⟩
      · clear hok
        go_wp2_with (first | ((with_reducible show wpList _ _ _ _ _ u1); refine load_T_g (by rfl) (.tmp 7) rfl b7 rfl C HR1.out.1 HIC.out ?_))
        refine (HBLC.out _).mono ?_
        rintro e w2 ⟨rfl, hb2⟩
        have HR2 := hide (HR1.out.kept hb2)
        go_wp2_with fail
        go_meet
        exact ⟨rfl, HR2.out.2.2⟩
  case rest =>
    obtain ⟨rfl, hbc⟩ := hcut
    have HBC := hide hbc
    clear hbc HCASE HR1 HIC HBLC
    have HI0 := hide (bbt_info 0 (N : Int) zeros32 zeros_len)
    have HO0 := hide (bbtC_one 0 (N : Int) zeros32)
    have HS0 := hide (HSS.out 0 (N : Int) zeros32 zeros_len)
    have HSM0 := hide (fun g W h => same_any 0 N hN1 hN2 zeros32 zeros_len g W h)
    obtain ⟨C, hC⟩ : ∃ C, C = bbtC 0 (N : Int) zeros32 := ⟨_, rfl⟩
    have HCE := hide hC
    rw [← hC] at HNEW HI0 HO0 HS0 HSM0
    clear hC
    go_wp2_with fail
    rw [HNI.out]
    refine (HNEW.out _).mono ?_
    rintro e w1 ⟨rfl, hb1⟩
    have HB1 := hide (below_trans HBC.out hb1)
    have HR1 := hide (RA.row HB1.out Z C)
    have hmk := fun W => make_bad N hN2 W
    go_wp2_with (first | ((with_reducible show wpList _ _ _ _ _ w1); refine wpList_alloc0 w1 rfl 26 rfl (.pointer (some ⟨w1.heap.size, 0, none⟩)) (w1.alloc (.cells Z 26)) (HAZ.out w1) ?_) | ((with_reducible show wpList _ _ _ _ _ (World.alloc _ _)); refine wpList_storeR rfl 26 (.tmp 10) (.tmp 58) rfl w1.heap.size rfl C rfl Z (heap_new w1 _) HI0.out HS0.out HO0.out ?_))
    have HR2 := hide (HR1.out.alloc (.cells (badC N zeros32) 4))
    have hsz1 : ((w1.alloc (.cells Z 26)).setRow w1.heap.size C).heap.size = w1.heap.size + 1 := by simp [World.setRow]
    have HD2 := hide (show BD w (World.alloc ((w1.alloc (.cells Z 26)).setRow w1.heap.size C) (.cells (badC N zeros32) 4)) (w1.heap.size + 1) N zeros32 from ⟨hsz1 ▸ heap_new _ _, hsz1 ▸ HR1.out.2.2.size⟩)
    have hbg : w1.heap.size < w1.heap.size + 1 := by omega
    clear hmk hb1 HB1 HR1 hsz1
    generalize World.alloc ((w1.alloc (.cells Z 26)).setRow w1.heap.size C) (.cells (badC N zeros32) 4) = u2 at *
    generalize w1.heap.size = b10 at *
    generalize b10 + 1 = g at *
    refine (wakes9 _).mono ?_
    rintro e w2 ⟨rfl, hb2⟩
    have HR3 := hide (HR2.out.kept hb2)
    have HD3 := hide (HD2.out.kept hb2)
    clear hb2 HR2 HD2
    go_wp2_with (first | ((with_reducible show wpList _ _ _ _ _ w2); refine load_T_g (by rfl) (.tmp 10) rfl b10 rfl C HR3.out.1 HI0.out ?_))
    refine (HSM0.out g _ HD3.out.1).mono ?_
    rintro e w3 ⟨rfl, hb3⟩
    have HR4 := hide (HCE.out ▸ HR3.out.kept hb3)
    have HD4 := hide (HD3.out.kept hb3)
    clear hb3 HR3 HD3
    go_wp2_with fail
    have HN := hide (show 0 = 0 → min zs.length 30 = n from fun _ => hn)
    clear hn hmI hcI HNEW HI0 HS0 HO0 HCE HSM0
    go_loopw [13, 80] (fun ver i W => ∃ (c j : Nat) (L : List UInt8), c ≤ n ∧ j ≤ c ∧ i = .int .i64 c ∧ ver = .int .u64 j ∧ L.length = 32 ∧ (∀ k, N ≤ k → hasB L k = false) ∧ RA w W b10 (bbtC (j : Int) (N : Int) L) ∧ BD w W g N L) (fun _ i _ => n - (intOf i).toNat)
    case atStart => exact ⟨0, 0, zeros32, by omega, by omega, rfl, rfl, rfl, fun k _ => zeros_has k, HR4.out, HD4.out⟩
    case round =>
      clear HR4 HD4
      obtain ⟨c, j, L, hc, hj, rfl, rfl, hL, hov, hr, hd⟩ := hrel
      have HOV := hide hov
      have HR := hide hr
      have HD := hide hd
      clear hov hr hd
      by_cases hlt : c < n
      · obtain ⟨b, off, rfl, hbw, c0⟩ := HAT.out c (by omega)
        obtain ⟨k0, k1⟩ := wf_i64 (wf_getD HZS.out c (by omega))
        have d0 : wr.cell? ⟨b, off + c, none⟩ = some (.int .i64 (zs.getD c 0)) := (HR.out.2.2.cell (p := ⟨b, off + c, none⟩) hbw).trans c0
        generalize zs.getD c 0 = k at *
        have HIC := hide (bbt_info (j : Int) (N : Int) L hL)
        clear c0
        by_cases hin : 0 ≤ k ∧ k < N
        · obtain ⟨kn, rfl⟩ := Int.eq_ofNat_of_zero_le hin.1
          have hkN : kn < N := by omega
          have hkN' : ¬ (N : Int) ≤ (kn : Int) := by omega
          have hl2 : (withB L kn).length = 32 := by rw [withB_length]; exact hL
          have hov2 : ∀ i, N ≤ i → hasB (withB L kn) i = false := fun i hi => by
            rw [withB_has L kn i (by omega), HOV.out i hi, Bool.or_false]; exact decide_eq_false (by omega)
          have HWI := hide (fun W => with_ok (j : Int) (N : Int) (by omega) (by omega) L hL kn (by omega) (by omega) W)
          have HSM := hide (fun W h => same_any (j : Int) N hN1 hN2 L hL g W h)
          have HI2 := hide (bbt_info ((j : Int) + 1) (N : Int) (withB L kn) hl2)
          have HO2 := hide (bbtC_one ((j : Int) + 1) (N : Int) (withB L kn))
          have HS2 := hide (HSS.out ((j : Int) + 1) (N : Int) (withB L kn) hl2)
          have HS3 := hide (bbt_sizes (j : Int) (N : Int) ((j : Int) + 1) (N : Int) L (withB L kn) hL hl2)
          have HSM2 := hide (fun W h => same_any ((j : Int) + 1) N hN1 hN2 (withB L kn) hl2 g W h)
          have HTX := hide (fun (c : Nat) (x : Int) h1 h2 W => text_ok ((j : Int) + 1) (by omega) (by omega) N hN1 hN2 (withB L kn) hl2 c x h1 h2 W)
          have HTB := hide (fun (x : Int) h W => text_bad ((j : Int) + 1) N hN1 hN2 (withB L kn) hl2 x h W)
          have HRT := hide (fun (c : Nat) (x : Int) h1 h2 W h => rtext_ok ((j : Int) + 1) (by omega) (by omega) N hN1 hN2 (withB L kn) hl2 hov2 g c x h1 h2 W h)
          have HRB := hide (fun (x : Int) h W => rtext_bad ((j : Int) + 1) N hN1 hN2 (some ⟨g, 0, none⟩) x h W)
          have HREL := hide (show (withB L kn).length = 32 ∧ ∀ i, N ≤ i → hasB (withB L kn) i = false from ⟨hl2, hov2⟩)
          have HSET := hide (fun W (h : BD w W g N L) => h.set hL hN2 kn hkN)
          have hw1 : IntKind.u64.wrap ((j : Int) + 1) = (j : Int) + 1 := wraps_u64 _ (by omega) (by omega)
          have hj30 : (j : Int) ≤ 30 := by omega
          clear hin k0 k1 hl2 hov2 hL
          generalize (withB L kn) = M at *
          generalize hCj : bbtC (j : Int) (N : Int) L = C at *
          generalize hDj : bbtC ((j : Int) + 1) (N : Int) M = D at *
          clear hCj
          have HDJ := hide hDj
          clear hDj
          go_wp2_with (first | ((with_reducible show wpList _ _ _ _ _ wr); refine wpList_load_row rfl 26 (.tmp 10) rfl b10 rfl 26 C (0, 0) _ HR.out.1 Try.underlying26 rfl HIC.out ?_))
          refine (HWI.out _).mono ?_
          rintro e w4 ⟨rfl, hb4⟩
          have HR4 := hide (HR.out.kept hb4)
          have HD4 := hide (HD.out.kept hb4)
          clear hb4 HR HD HWI d0
          go_wp2_with (first | ((with_reducible show wpList _ _ _ _ _ w4); refine wpList_alloc0 w4 rfl 26 rfl (.pointer (some ⟨w4.heap.size, 0, none⟩)) (w4.alloc (.cells Z 26)) (HAZ.out w4) ?_) | ((with_reducible show wpList _ _ _ _ _ (World.alloc _ _)); refine wpList_storeR rfl 26 (.tmp 16) (.tmp 88) rfl w4.heap.size rfl D rfl Z (heap_new w4 _) HI2.out HS2.out HO2.out ?_) | ((with_reducible show wpList _ _ _ _ _ (World.setRow _ _ _)); refine load_T_g (by rfl) (.tmp 10) rfl b10 rfl C (HR4.out.rowOld Z D).1 HIC.out ?_))
          have HR5 := hide (HR4.out.rowOld Z D)
          have HD5 := hide (HD4.out.rowOld Z D)
          have HT5 := hide (RA.row HR4.out.2.2 Z D)
          have hb16 := HR4.out.lt
          generalize (w4.alloc (.cells Z 26)).setRow w4.heap.size D = w5 at *
          generalize w4.heap.size = b16 at *
          clear HR4 HD4
          refine (HSM.out _ HD5.out.1).mono ?_
          rintro e w6 ⟨rfl, hb6⟩
          have HR6 := hide (HR5.out.kept hb6)
          have HD6 := hide (HD5.out.kept hb6)
          have HT6 := hide (HT5.out.kept hb6)
          clear hb6 HR5 HD5 HT5 HSM
          go_upto_region 20 with (first | ((with_reducible show wpList _ _ _ _ _ w6); refine wpList_load_row rfl 26 (.tmp 16) rfl b16 rfl 26 D (0, 0) _ HT6.out.1 Try.underlying26 rfl HI2.out ?_) | ((with_reducible show wpList _ _ _ _ _ w6); refine wpList_storeR rfl 26 (.tmp 10) (.tmp 113) rfl b10 rfl D rfl C HR6.out.1 HI2.out HS3.out HO2.out ?_))
          have HR7 := hide (HR6.out.set D)
          have HD7 := hide (HD6.out.other (by omega : g ≠ b10) D)
          generalize w6.setRow b10 D = w7 at *
          clear HR6 HD6 HT6
          have hcell := (cell_of_block HD7.out.1 kn).trans (badC_at N L kn hkN)
          have hfr := frozen_of_block HD7.out.1 kn
          go_wp2_with (first | ((with_reducible show wpList _ _ _ _ _ (World.setCell _ _ _)); refine wpList_load_row rfl 26 (.tmp 10) rfl b10 rfl 26 D (0, 0) _ (HR7.out.cellSet HD7.out.2 (by omega : g ≠ b10) kn (.bool true)).1 Try.underlying26 rfl HI2.out ?_))
          have HR8 := hide (HR7.out.cellSet HD7.out.2 (by omega : g ≠ b10) kn (.bool true))
          have HD8 := hide (HSET.out _ HD7.out)
          generalize w7.setCell ⟨g, kn, none⟩ (.bool true) = w8 at *
          clear HR7 HD7 hcell hfr
          refine (HSM2.out _ HD8.out.1).mono ?_
          rintro e w9 ⟨rfl, hb9⟩
          have HR9 := hide (HR8.out.kept hb9)
          have HD9 := hide (HD8.out.kept hb9)
          clear hb9 HR8 HD8 HSM2
          go_wp2_with fail
          obtain ⟨O, hO⟩ : ∃ O, O = Obj.cells #[.int .i64 sz, .int .i64 (max 0 sz % 1100)] 3 := ⟨_, rfl⟩
          have HRa := hide (HR9.out.alloc O)
          have HDa := hide (HD9.out.alloc O)
          have HOa := hide (heap_new w9 O)
          rw [hO] at HRa HDa HOa
          clear hO HR9 HD9
          generalize World.alloc w9 _ = wa at *
          generalize w9.heap.size = h at *
          go_loopw [130] (fun i W => ∃ d : Nat, d ≤ 2 ∧ i = .int .i64 d ∧ RA w W b10 D ∧ BD w W g N M ∧ W.heap[h]? = some (.cells #[.int .i64 sz, .int .i64 (max 0 sz % 1100)] 3 (0, 0))) (fun i _ => 2 - (intOf i).toNat)
          case atStart => exact ⟨0, by omega, rfl, HRa.out, HDa.out, HOa.out⟩
          case round =>
            clear HRa HDa HOa
            obtain ⟨d, hd2, rfl, hr, hd, ho⟩ := hrel
            have HR := hide hr
            have HD := hide hd
            have HO := hide ho
            clear hr hd ho
            by_cases hd1 : d < 2
            · obtain ⟨x, hcell, x0, x1⟩ : ∃ x : Int, wr.cell? ⟨h, d, none⟩ = some (.int .i64 x) ∧ -9223372036854775808 ≤ x ∧ x ≤ 9223372036854775807 := by
                rw [cell_of_block HO.out]
                by_cases h0 : d = 0
                · subst h0; exact ⟨sz, rfl, sz0, sz1⟩
                · obtain rfl : d = 1 := by omega
                  exact ⟨max 0 sz % 1100, rfl, by omega, by omega⟩
              have hdI : (d : Int) < 2 := by omega
              by_cases hg : 8 + (((N + 7) / 8 : Nat) : Int) ≤ x ∧ x ≤ 1024
              · obtain ⟨q, hq⟩ : ∃ q : Nat, x = 8 + (((N + 7) / 8 : Nat) : Int) + q := ⟨(x - 8 - (((N + 7) / 8 : Nat) : Int)).toNat, by omega⟩
                have HTX' := hide (HTX.out q x hq hg.2)
                have HRT' := hide (HRT.out q x hq hg.2)
                generalize bs (textL ((j : Int) + 1) N M q) = s at *
                clear hq hg
                go_wp2_with (first | ((with_reducible show wpList _ _ _ _ _ wr); refine wpList_load_row rfl 26 (.tmp 10) rfl b10 rfl 26 D (0, 0) _ HR.out.1 Try.underlying26 rfl HI2.out ?_))
                refine (HTX'.out _).mono ?_
                rintro e wb ⟨rfl, hbb⟩
                have HRb := hide (HR.out.kept hbb)
                have HDb := hide (HD.out.kept hbb)
                have HOb := hide ((hbb.block _ (heap_lt HO.out)).trans HO.out)
                clear hbb HR HD HO hcell
                go_wp2_with fail
                refine (HRT'.out _ HDb.out.1).mono ?_
                rintro e wd ⟨rfl, hbb⟩
                have HRd := hide (HRb.out.kept hbb)
                have HDd := hide (HDb.out.kept hbb)
                have HOd := hide ((hbb.block _ (heap_lt HOb.out)).trans HOb.out)
                clear hbb HRb HDb HOb
                go_wp2_with fail
                go_roundw
                case rel => exact ⟨d + 1, by omega, by go_num, HRd.out, HDd.out, HOd.out⟩
                case measure => simp [intOf]; omega
              · have HTB' := hide (HTB.out x (by omega))
                have HRB' := hide (HRB.out x (by omega))
                clear hg
                go_wp2_with (first | ((with_reducible show wpList _ _ _ _ _ wr); refine wpList_load_row rfl 26 (.tmp 10) rfl b10 rfl 26 D (0, 0) _ HR.out.1 Try.underlying26 rfl HI2.out ?_))
                refine (HTB'.out _).mono ?_
                rintro e wb ⟨rfl, hbb⟩
                have HRb := hide (HR.out.kept hbb)
                have HDb := hide (HD.out.kept hbb)
                have HOb := hide ((hbb.block _ (heap_lt HO.out)).trans HO.out)
                clear hbb HR HD HO hcell
                go_wp2_with fail
                refine (HRB'.out _).mono ?_
                rintro e wd ⟨rfl, hbb⟩
                have HRd := hide (HRb.out.kept hbb)
                have HDd := hide (HDb.out.kept hbb)
                have HOd := hide ((hbb.block _ (heap_lt HOb.out)).trans HOb.out)
                clear hbb HRb HDb HOb
                go_wp2_with fail
                go_roundw
                case rel => exact ⟨d + 1, by omega, by go_num, HRd.out, HDd.out, HOd.out⟩
                case measure => simp [intOf]; omega
            · obtain rfl : d = 2 := by omega
              go_wp2_with fail
              go_roundw
              case rel =>
                refine ⟨c + 1, j + 1, M, by omega, by omega, by go_num, by go_num, HREL.out.1, HREL.out.2, ?_, HD.out⟩
                have := HR.out
                rw [← HDJ.out] at this
                rwa [show ((j : Int) + 1) = ((j + 1 : Nat) : Int) by omega] at this
              case measure => simp [intOf]; omega
        · have HWR := hide (fun W => with_range (j : Int) (N : Int) L hL k hin W)
          rw [← HZE.out] at HWR
          generalize hCj : bbtC (j : Int) (N : Int) L = C at *
          have HCJ := hide hCj
          clear hCj
          by_cases hneg : k < 0
          · clear hin
            go_wp2_with (first | ((with_reducible show wpList _ _ _ _ _ wr); refine wpList_load_row rfl 26 (.tmp 10) rfl b10 rfl 26 C (0, 0) _ HR.out.1 Try.underlying26 rfl HIC.out ?_))
            refine (HWR.out _).mono ?_
            rintro e w4 ⟨rfl, hb4⟩
            have HR4 := hide (HR.out.kept hb4)
            have HD4 := hide (HD.out.kept hb4)
            clear hb4 HR HD HWR d0
            go_wp2_with (first | ((with_reducible show wpList _ _ _ _ _ w4); refine wpList_alloc0 w4 rfl 26 rfl (.pointer (some ⟨w4.heap.size, 0, none⟩)) (w4.alloc (.cells Z 26)) (HAZ.out w4) ?_) | ((with_reducible show wpList _ _ _ _ _ (World.alloc _ _)); refine wpList_storeR rfl 26 (.tmp 16) (.tmp 88) rfl w4.heap.size rfl Z rfl Z (heap_new w4 _) HIZ.out rfl HOZ.out ?_) | ((with_reducible show wpList _ _ _ _ _ (World.setRow _ _ _)); refine load_T_g (by rfl) (.tmp 16) rfl w4.heap.size rfl Z (RA.row HR4.out.2.2 Z Z).1 HIZ.out ?_))
            have HR5 := hide (HR4.out.rowOld Z Z)
            have HD5 := hide (HD4.out.rowOld Z Z)
            generalize (w4.alloc (.cells Z 26)).setRow w4.heap.size Z = w5 at *
            generalize w4.heap.size = b16 at *
            clear HR4 HD4
            refine (HBLZ.out _).mono ?_
            rintro e w6 ⟨rfl, hb6⟩
            have HR6 := hide (HR5.out.kept hb6)
            have HD6 := hide (HD5.out.kept hb6)
            clear hb6 HR5 HD5
            go_wp2_with fail
            go_roundw
            case rel => exact ⟨c + 1, j, L, by omega, by omega, by go_num, rfl, hL, HOV.out, by have := HR6.out; rwa [← HCJ.out] at this, HD6.out⟩
            case measure => simp [intOf]; omega
          · have hge : (N : Int) ≤ k := by omega
            clear hin
            go_wp2_with (first | ((with_reducible show wpList _ _ _ _ _ wr); refine wpList_load_row rfl 26 (.tmp 10) rfl b10 rfl 26 C (0, 0) _ HR.out.1 Try.underlying26 rfl HIC.out ?_))
            refine (HWR.out _).mono ?_
            rintro e w4 ⟨rfl, hb4⟩
            have HR4 := hide (HR.out.kept hb4)
            have HD4 := hide (HD.out.kept hb4)
            clear hb4 HR HD HWR d0
            go_wp2_with (first | ((with_reducible show wpList _ _ _ _ _ w4); refine wpList_alloc0 w4 rfl 26 rfl (.pointer (some ⟨w4.heap.size, 0, none⟩)) (w4.alloc (.cells Z 26)) (HAZ.out w4) ?_) | ((with_reducible show wpList _ _ _ _ _ (World.alloc _ _)); refine wpList_storeR rfl 26 (.tmp 16) (.tmp 88) rfl w4.heap.size rfl Z rfl Z (heap_new w4 _) HIZ.out rfl HOZ.out ?_) | ((with_reducible show wpList _ _ _ _ _ (World.setRow _ _ _)); refine load_T_g (by rfl) (.tmp 16) rfl w4.heap.size rfl Z (RA.row HR4.out.2.2 Z Z).1 HIZ.out ?_))
            have HR5 := hide (HR4.out.rowOld Z Z)
            have HD5 := hide (HD4.out.rowOld Z Z)
            generalize (w4.alloc (.cells Z 26)).setRow w4.heap.size Z = w5 at *
            generalize w4.heap.size = b16 at *
            clear HR4 HD4
            refine (HBLZ.out _).mono ?_
            rintro e w6 ⟨rfl, hb6⟩
            have HR6 := hide (HR5.out.kept hb6)
            have HD6 := hide (HD5.out.kept hb6)
            clear hb6 HR5 HD5
            go_wp2_with fail
            go_roundw
            case rel => exact ⟨c + 1, j, L, by omega, by omega, by go_num, rfl, hL, HOV.out, by have := HR6.out; rwa [← HCJ.out] at this, HD6.out⟩
            case measure => simp [intOf]; omega
      · obtain rfl : c = n := by omega
        go_wp2_with fail
        go_ret
        exact ⟨rfl, HR.out.2.2⟩
theorem bbtGrows_all (b : Int) (b0 : -9223372036854775808 ≤ b) (b1 : b ≤ 9223372036854775807) (v : Value) (w : World) (hv : ∃ zs : List Int, NumsAt w .i64 v zs ∧ (∀ z ∈ zs, (Lit.int .i64 z).wf = true) ∧ zs.length ≤ maxLen) (s : Int) (s0 : -9223372036854775808 ≤ s) (s1 : s ≤ 9223372036854775807) :
    Calls Try.prog 3 #[.int .i64 b, v, .int .i64 s] w fun e w' => e = .returned (.bool true) ∧ Below w.heap.size w w' := by
  obtain ⟨zs, hz, hw, hm⟩ := hv
  obtain ⟨a, cap, rfl, hc, hat⟩ := nums_at hz
  unfold maxLen at hm
  exact bbtGrows_walk b b0 b1 zs hw a cap hc (by omega) s s0 s1 w hat

set_option maxRecDepth 100000 in
theorem bbtGrows_lifted (os : Os) (started : os.Started) (H : Type) (enc : TypeId × Value → H) :
    ReturnsInHanded {} Try.checked os 3 .any (Rows.bbtGrowsSpec.pre6 enc Try.prog Try.f3 Rows.bbtGrowsRow.domain false) (Rows.bbtGrowsSpec.post enc Try.prog Try.f3 false true false false) := by
  refine returnsInHanded_of_change (C := Try.checked) own started (by kernel_rfl) Try.func3
    (ChangeSpec.witness6 (enc := enc) (C := Try.checked) false ⟨#[], #[.int .i64 0, .slice none 0 0, .int .i64 0], []⟩ 8 (by kernel_rfl) (by kernel_rfl) (by kernel_rfl) (by kernel_rfl)) ?_
  intro W base args ds gs before hval0 hW _ _
  have hval : ∀ (j : Nat) t v, Try.f3.params[j]? = some t → args[j]? = some v → Value.okWide Try.prog W .any base t v := hval0
  have hW' := hW
  obtain ⟨p, q, hA0, hV, rfl, hfz, hnd⟩ := hW
  have hA : DataW.TrodAll enc Try.prog W 0 (fun _ => true) true Try.f3.params.toList args.toList ds p := hA0
  rw [Try.params3] at hA hval
  obtain ⟨v0, vs0, d0, ds0, p0, q0, hargs, rfl, rfl, h0, r0⟩ := trodAll_cons hA
  obtain ⟨v1, vs1, d1, ds1, p1, q1, rfl, rfl, rfl, h1, r1⟩ := trodAll_cons r0
  obtain ⟨v2, vs2, d2, ds2, p2, q2, rfl, rfl, rfl, h2, r2⟩ := trodAll_cons r1
  obtain ⟨rfl, rfl, rfl⟩ := trodAll_nil r2
  obtain rfl : args = #[v0, v1, v2] := by cases args; simp_all
  obtain ⟨rfl, rfl⟩ := trodVars_none hV
  obtain ⟨b, rfl, rfl, rfl, w0⟩ := open_int Try.underlying3 (hval 0 3 v0 rfl rfl) h0
  have z0 := wf_i64 w0
  have z1 := open_nums_slice Try.underlying22 Try.underlying3 (by kernel_rfl) (hval 1 22 v1 rfl rfl) h1
  obtain ⟨s, rfl, rfl, rfl, w2⟩ := open_int Try.underlying3 (hval 2 3 v2 rfl rfl) h2
  have z2 := wf_i64 w2
  clear hA0 hval0
  refine (bbtGrows_all b z0.1 z0.2 v1 W z1 s z2.1 z2.2).mono fun e W' ⟨he, hb⟩ => ?_
  subst he
  exact ⟨_, rfl, post_law laidOut (of_decide_eq_true (by kernel_rfl)) rfl rfl Try.underlying4 hW' ⟨rfl, rfl, rfl⟩ hb⟩

/-- THE STATEMENT -/
theorem bbtGrows_holds : Rows.BbtGrowsSaid :=
  OpenClaim.holds_of_wide 3 Try.f3 rfl rfl rfl rfl rfl rfl rfl ⟨rfl, rfl, rfl, rfl, rfl⟩ rfl rfl rfl rfl rfl (by kernel_rfl) Try.func3 (by kernel_rfl)
    (of_decide_eq_true (by kernel_rfl)) (by unfold Func.isWrapper; first | (rw [if_pos (by decide +kernel)]; kernel_rfl) | (rw [if_neg (by decide +kernel)]; exact ⟨rfl, rfl⟩))
    (fun os started H enc _ => bbtGrows_lifted os started H enc)

end Go.Proofs.Ytfphkldpjfackaa
