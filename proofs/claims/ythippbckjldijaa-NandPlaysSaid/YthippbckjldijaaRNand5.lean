/-
  Layer 5, the document's calls, fifth part: Erase.
-/
import Derived.Test.YthippbckjldijaaRNand4
--import Derived.Test.Zdbg
namespace Go.Proofs.Ythippbckjldijaa
set_option linter.unusedSimpArgs false
set_option linter.unusedVariables false
open Go.RowKit Go.WideShapes Go.ChangeShapes Go.ChangeAt Go.Deep

theorem wipeG_later (x : Pg) (L : List Pg) (g : Nat → Bool) : ∀ j i, j ≤ i → (wipeG x L g j).getD i pg0 = L.getD i pg0
  | 0, i, _ => rfl
  | j + 1, i, h => by
    rw [wipeG]
    split
    · rw [getD_set_other _ _ _ _ _ (by omega)]
      exact wipeG_later x L g j i (by omega)
    · exact wipeG_later x L g j i (by omega)
theorem wipeB_yes (S : ChipM) (k : Nat) (g : Nat → Bool) (j : Nat) (hg : g j = true) (hj : j < (S.blk k).pages.length) : ({ wipeB S k g j with pages := (wipeB S k g j).pages.set j S.blank } : BlkM) = wipeB S k g (j + 1) := by
  have hp : wipeG S.blank (S.blk k).pages g (j + 1) = (wipeG S.blank (S.blk k).pages g j).set j S.blank := if_pos hg
  have hn : wipeN S.blank (S.blk k).pages g (j + 1) = wipeN S.blank (S.blk k).pages g j := if_pos (by rw [hp]; exact getD_set_self _ _ _ _ (by rw [wipeG_length]; exact hj))
  unfold wipeB
  rw [hp, hn]
theorem wipeB_no (S : ChipM) (k : Nat) (g : Nat → Bool) (j : Nat) (hg : g j = false) (hy : (S.blk k).pages.getD j pg0 = S.blank) : wipeB S k g j = wipeB S k g (j + 1) := by
  have hp : wipeG S.blank (S.blk k).pages g (j + 1) = wipeG S.blank (S.blk k).pages g j := if_neg (by rw [hg]; decide)
  have hn : wipeN S.blank (S.blk k).pages g (j + 1) = wipeN S.blank (S.blk k).pages g j := if_pos (by rw [hp, wipeG_later _ _ _ _ _ (Nat.le_refl j)]; exact hy)
  unfold wipeB
  rw [hp, hn]
theorem wipeB_not (S : ChipM) (k : Nat) (g : Nat → Bool) (j : Nat) (hg : g j = false) (hy : ¬ (S.blk k).pages.getD j pg0 = S.blank) : ({ wipeB S k g j with next := (j : Int) + 1 } : BlkM) = wipeB S k g (j + 1) := by
  have hp : wipeG S.blank (S.blk k).pages g (j + 1) = wipeG S.blank (S.blk k).pages g j := if_neg (by rw [hg]; decide)
  have hn : wipeN S.blank (S.blk k).pages g (j + 1) = (j : Int) + 1 := if_neg (by rw [hp, wipeG_later _ _ _ _ _ (Nat.le_refl j)]; exact hy)
  unfold wipeB
  rw [hp, hn]
theorem wipeG_all (x : Pg) (L : List Pg) : ∀ j, wipeG x L (fun _ => true) j = wipeP x L j
  | 0 => rfl
  | j + 1 => by rw [wipeG, if_pos rfl, wipeG_all x L j]; rfl
theorem wipeN_all (x : Pg) (L : List Pg) : ∀ j, j ≤ L.length → wipeN x L (fun _ => true) j = 0
  | 0, _ => rfl
  | j + 1, h => by
    have hp : wipeG x L (fun _ => true) (j + 1) = (wipeG x L (fun _ => true) j).set j x := if_pos rfl
    have hn : wipeN x L (fun _ => true) (j + 1) = wipeN x L (fun _ => true) j := if_pos (by rw [hp]; exact getD_set_self _ _ _ _ (by rw [wipeG_length]; omega))
    rw [hn]
    exact wipeN_all x L j (by omega)
theorem pg_eq (x y : Pg) (h : x.1.size = y.1.size) (he : x.1 ++ x.2 = y.1 ++ y.2) : x = y := by
  have h1 : x.1.data.toList ++ x.2.data.toList = y.1.data.toList ++ y.2.data.toList := by
    have := congrArg (fun z : ByteArray => z.data.toList) he
    simpa [ByteArray.data_append] using this
  obtain ⟨h2, h3⟩ := List.append_inj h1 (by rw [size_list, size_list]; exact h)
  obtain ⟨⟨a⟩, ⟨b⟩⟩ := x
  obtain ⟨⟨a'⟩, ⟨b'⟩⟩ := y
  simp only at h2 h3
  rw [Array.toList_inj.1 h2, Array.toList_inj.1 h3]
section
variable {c pq n e a f m cp B : Nat} {G : Nat → Nat} {S : ChipM}
theorem rerase_ask (b : Int) (w : World) (h : RefAt w c pq n e a f m cp G B S) (ha : askE S b 0 ≠ 0) :
    Calls Try.prog 17 #[.pointer (some ⟨c, 0, none⟩), .int .i64 b] w (RefIs c pq n e a f m cp G B S (.int .i64 (askE S b 0)) w) := by
  have HASK := hide (ready_any b 0 w h)
  have HH := hide h
  clear h
  generalize askE S b 0 = ae at *
  go_enter Try.func17, Try.ntmps17
  go_wp2_with fail
  refine HASK.out.mono ?_
  rintro e0 w1 ⟨rfl, rfl⟩
  go_wp2_with fail
  go_ret
  exact ⟨rfl, HH.out, RTurn.refl _ _⟩
set_option maxRecDepth 100000 in
set_option maxHeartbeats 400000 in
theorem rerase_sin (hS : NandOk S) (k : Nat) (w : World) (h : RefAt w c pq n e a f m cp G B S) (ha : askE S (k : Int) 0 = 0) (hE : sinE (S.blk k) false ≠ 0) :
    Calls Try.prog 17 #[.pointer (some ⟨c, 0, none⟩), .int .i64 (k : Int)] w (RefIs c pq n e a f m cp G B (sinS S k false) (.int .i64 (sinE (S.blk k) false)) w) := by
  obtain ⟨ho, -, hk', -, hi'⟩ := askE_in ha
  have hk : k < S.L.length := by omega
  have hfew := h.few
  have HASK := hide (ready_any (k : Int) 0 w h)
  rw [ha] at HASK
  have c7 : w.cell? ⟨c, 7, none⟩ = some (.slice (some ⟨f, 0, none⟩) S.L.length S.L.length) := h.cell 7
  have df := (h.at_fail k hk).1
  have HR := hide (show sinS S k false = { S with sins := S.sins + 1 } by unfold sinS; rw [if_neg hE])
  rw [HR.out]
  have hw : IntKind.i64.wrap (S.sins + 1) = S.sins + 1 := by rw [IntKind.wrap_i64]; have := hS.sins; omega
  have c14 : w.cell? ⟨c, 14, none⟩ = some (.int .i64 S.sins) := h.cell 14
  have f14 := h.free 14
  have N1 := hide (h.setHead 14 (.int .i64 (S.sins + 1)) { S with sins := S.sins + 1 } rfl rfl rfl)
  have T1 := hide (h.turnHead 14 (.int .i64 (S.sins + 1)))
  have h1 : (S.blk k).failed = true ∨ (S.blk k).mill = true := by
    by_cases h1 : (S.blk k).failed = true ∨ (S.blk k).mill = true
    · exact h1
    · exact absurd (by unfold sinE; rw [if_neg h1]; rfl) hE
  have HE := hide (show (12 : Int) = sinE (S.blk k) false by unfold sinE; rw [if_pos h1])
  have hb : ((S.blk k).failed || (S.blk k).mill) = true := by rcases h1 with h1 | h1 <;> rw [h1] <;> simp
  rw [hb] at df
  clear h ha hS HR hE h1 hb
  go_enter Try.func17, Try.ntmps17
  go_wp2_with fail
  refine HASK.out.mono ?_
  rintro e0 w1 ⟨rfl, rfl⟩
  go_wp2_with fail
  go_ret
  exact ⟨ret_int HE.out, N1.out, T1.out⟩
set_option maxRecDepth 100000 in
set_option maxHeartbeats 2000000 in
theorem rerase_go (hS : NandOk S) (hZ : Sized S) (hB1 : S.blank.1.size = S.size) (hBk : BlankOk S) (k : Nat) (w : World) (h : RefAt w c pq n e a f m cp G B S) (ha : askE S (k : Int) 0 = 0) (hE : sinE (S.blk k) false = 0) (hfz : ¬ S.fuse = 1) (her : 0 ≤ (S.blk k).erased ∧ (S.blk k).erased ≤ 1000000) :
    Calls Try.prog 17 #[.pointer (some ⟨c, 0, none⟩), .int .i64 (k : Int)] w (RefIs c pq n e a f m cp G B (erasedS S k) (.int .i64 (erasedE S k)) w) := by
  obtain ⟨ho, -, hk', -, hi'⟩ := askE_in ha
  have hk : k < S.L.length := by omega
  have hfew := h.few
  have HASK := hide (ready_any (k : Int) 0 w h)
  rw [ha] at HASK
  have c7 : w.cell? ⟨c, 7, none⟩ = some (.slice (some ⟨f, 0, none⟩) S.L.length S.L.length) := h.cell 7
  have df := (h.at_fail k hk).1
  have h1 : (S.blk k).failed = false ∧ (S.blk k).mill = false := by
    unfold sinE at hE
    cases h2 : (S.blk k).failed <;> cases h3 : (S.blk k).mill <;> simp [h2, h3] at hE ⊢
  rw [h1.1, h1.2] at df
  have hmill := h1.2
  have c13 : w.cell? ⟨c, 13, none⟩ = some (.int .i64 S.eras) := h.cell 13
  have f13 := h.free 13
  have hw2 : IntKind.i64.wrap (S.eras + 1) = S.eras + 1 := by rw [IntKind.wrap_i64]; have := hS.eras; omega
  have N2 := hide (h.setHead 13 (.int .i64 (S.eras + 1)) (erasS S) rfl rfl rfl)
  have T2 := hide (h.turnHead 13 (.int .i64 (S.eras + 1)))
  have HLN := hide (h.len k hk)
  have HOK := hide hS
  have HC := hide (rcut_any (S := erasS S) ho hS.fuse.1 hS.fuse.2 _ N2.out)
  obtain ⟨S1, hS1⟩ : ∃ S1, S1 = cutS (erasS S) := ⟨_, rfl⟩
  rw [← hS1] at HC
  rw [show (erasS S).fuse = S.fuse from rfl] at HC
  have hb1 : S1.blk k = S.blk k := by rw [hS1, cut_blk]; rfl
  have hl1 : S1.L.length = S.L.length := by rw [hS1, cut_len]; rfl
  have hg1 : S1.pgs = S.pgs := by rw [hS1, cut_pgs]; rfl
  have hz1 : S1.size = S.size := by rw [hS1, cut_size]; rfl
  have hbl1 : S1.blank = S.blank := by rw [hS1, cut_blank]; rfl
  have ht1 : S1.torn = S.torn := by rw [hS1, cut_torn]; rfl
  have hk1 : k < S1.L.length := by omega
  have HNZ := hide (show S1.blank.1 ++ S1.blank.2 = fillZ (S.size + 32) 255 by rw [hbl1]; exact hBk)
  have HPG := hide (show ∀ j, j < S.pgs → ((S1.blk k).pages.getD j pg0).1.size = S1.blank.1.size by
    intro j hj
    rw [hb1, hbl1, (hZ k j hk hj).1, hB1])
  have HRS := hide (show erasedS S k = if (S.blk k).weak = true then S1.put k { S.blk k with failed := true }
    else S1.put k { S.blk k with pages := wipeP S.blank (S.blk k).pages S.pgs, next := 0, erased := (S.blk k).erased + 1 } by rw [hS1]; rfl)
  have HRE := hide (show erasedE S k = if (S.blk k).weak = true then 10 else 0 from rfl)
  have HRC := hide (show eraseCut S k = S1.put k (wipeB S1 k (goneB S.torn) S.pgs) by rw [hS1]; rfl)
  have HBB := hide hb1
  have HBL := hide hbl1
  have hzs := hS.size
  clear h ha hS hS1 h1 hb1 hbl1 hBk hB1 hZ
  go_enter Try.func17, Try.ntmps17
  go_wp2_with fail
  refine HASK.out.mono ?_
  rintro e0 w1 ⟨rfl, rfl⟩
  go_wp2_with fail
  clear c7 df c13 f13 HASK
  generalize w.setCell ⟨c, 13, none⟩ (.int .i64 (S.eras + 1)) = w2 at *
  rw [decide_eq_false hfz] at HC
  refine HC.out.mono ?_
  rintro e0 w4 ⟨rfl, hn, ht⟩
  have N4 := hide hn
  have T4 := hide (T2.out.trans ht)
  clear hn ht HC N2 T2
  clear hfz hE
  have HWK := hide (show ((S1.blk k).weak || (S1.blk k).mill) = (S.blk k).weak by rw [HBB.out, hmill, Bool.or_false])
  have c6 : w4.cell? ⟨c, 6, none⟩ = some (.slice (some ⟨a, 0, none⟩) S1.L.length S1.L.length) := N4.out.cell 6
  have da : w4.cell? ⟨a, k, none⟩ = some (.bool (S.blk k).weak) := by rw [← HWK.out]; exact (N4.out.at_weak k hk1).1
  cases hwk : (S.blk k).weak with
  | true =>
    rw [hwk] at da
    have c7 : w4.cell? ⟨c, 7, none⟩ = some (.slice (some ⟨f, 0, none⟩) S1.L.length S1.L.length) := N4.out.cell 7
    have df := (N4.out.at_fail k hk1).1
    have ff := (N4.out.at_fail k hk1).2
    have N5 := N4.out.setFail k hk1 true
    rw [show (true || (S1.blk k).mill) = true from rfl, HBB.out] at N5
    have HN5 := hide N5
    have T5 := hide (T4.out.trans (N4.out.turnFail k (.bool true)))
    have HFR := hide (show erasedS S k = S1.put k { S.blk k with failed := true } by rw [HRS.out, if_pos hwk])
    have HFE := hide (show (10 : Int) = erasedE S k by rw [HRE.out, if_pos hwk])
    clear N5 HRS HRE hwk hmill
    go_wp2_with fail
    go_ret
    refine ⟨ret_int HFE.out, ?_, T5.out⟩
    rw [HFR.out]
    exact HN5.out
  | false =>
    rw [hwk] at da
    have HFR := hide (show erasedS S k = S1.put k { S.blk k with pages := wipeP S.blank (S.blk k).pages S.pgs, next := 0, erased := (S.blk k).erased + 1 } by rw [HRS.out, if_neg (by rw [hwk]; decide)])
    have HFE := hide (show (0 : Int) = erasedE S k by rw [HRE.out, if_neg (by rw [hwk]; decide)])
    clear HRS HRE hwk hmill
    have c2 : w4.cell? ⟨c, 2, none⟩ = some (.int .i64 (S.size : Int)) := by rw [← hz1]; exact N4.out.cell 2
    have HBC := hide (blank_any (c := c) S.size hzs w4 c2)
    go_wp2_with fail
    refine HBC.out.mono ?_
    rintro e0 w5 ⟨rfl, hb⟩
    have N5 := hide (N4.out.below hb)
    have T5 := hide (T4.out.trans (RTurn.of_below hb N4.out.size))
    clear hb N4 T4 HBC c2
    generalize fillZ (S.size + 32) 255 = nz at *
    have c4 : w5.cell? ⟨c, 4, none⟩ = some (.slice (some ⟨n, 0, none⟩) S1.L.length S1.L.length) := N5.out.cell 4
    have dn := (N5.out.at_next k hk1).1
    have fn := (N5.out.at_next k hk1).2
    have N6 := hide (show RefAt (w5.setCell ⟨n, k, none⟩ (.int .i64 0)) c pq n e a f m cp G B (S1.put k (wipeB S1 k (fun _ => true) 0)) from N5.out.setNext k hk1 0)
    have T6 := hide (T5.out.trans (N5.out.turnNext k (.int .i64 0)))
    clear N5 T5
    go_wp2_with fail
    clear c4 dn fn
    generalize w5.setCell ⟨n, k, none⟩ (.int .i64 0) = w6 at *
    go_loopw [8] (fun x W => ∃ j : Nat, j ≤ S.pgs ∧ x = .int .i64 j ∧ RefAt W c pq n e a f m cp G B (S1.put k (wipeB S1 k (fun _ => true) j)) ∧ RTurn B w W) (fun x _ => S.pgs - (intOf x).toNat)
    case atStart => exact ⟨0, by omega, rfl, N6.out, T6.out⟩
    case round =>
      clear N6 T6
      obtain ⟨j, hj, rfl, hn, ht⟩ := hrel
      have TJ := hide ht
      clear ht
      have c1 : wr.cell? ⟨c, 1, none⟩ = some (.int .i64 (S.pgs : Int)) := by rw [← hg1]; exact hn.cell 1
      by_cases hlt : j < S.pgs
      · obtain ⟨SJ, hSJ⟩ : ∃ SJ, SJ = S1.put k (wipeB S1 k (fun _ => true) j) := ⟨_, rfl⟩
        rw [← hSJ] at hn
        have hbj : SJ.blk k = wipeB S1 k (fun _ => true) j := by rw [hSJ]; exact blk_put_self S1 k _ hk1
        have hlj : SJ.L.length = S1.L.length := by rw [hSJ]; exact put_length S1 k _
        have hkj : k < SJ.L.length := by omega
        have hpj : SJ.pgs = S.pgs := by rw [hSJ]; exact hg1
        have hjj : j < SJ.pgs := by omega
        have HPJ := hide (show ∀ y, SJ.put k y = S1.put k y from fun y => by rw [hSJ]; exact put_put S1 k _ y)
        have HYJ := hide (show (SJ.blk k).pages.getD j pg0 = (S1.blk k).pages.getD j pg0 by rw [hbj]; exact wipeG_later _ _ _ _ _ (Nat.le_refl j))
        have hjl : j < (S1.blk k).pages.length := by rw [HBB.out, HLN.out]; exact hlt
        have c10 : wr.cell? ⟨c, 10, none⟩ = some (.string S.torn) := by rw [← ht1, show S1.torn = SJ.torn by rw [hSJ]; rfl]; exact hn.cell 10
        have HST := hide (show RefAt wr c pq n e a f m cp G B (S1.put k (wipeB S1 k (fun _ => true) j)) by rw [← hSJ]; exact hn)
        have NJ := hide hn
        have HBJ := hide hbj
        have HGC := hide (show G k ≠ c from ne_of_type (hn.page k hkj) hn.head (by decide))
        have HGP := hide (show G k ≠ pq from by obtain ⟨cur, h1, -⟩ := hn.rows; exact ne_of_type (hn.page k hkj) h1 (by decide))
        clear hn hSJ hbj
        have HGJ := hide (show (fun _ : Nat => true) j = true from rfl)
        have hgt : (fun _ => true) j = true := HGJ.out
        have HFY := hide (wipeB_yes S1 k (fun _ => true) j hgt hjl)
        clear hgt
        go_upto_region 17 with (fail)
        go_quiet (fail)
        generalize hv : wr.drewN _ = v0
        have NV := hide (show RefAt v0 c pq n e a f m cp G B SJ from hv ▸ NJ.out.drewN _)
        have TV := hide (show RTurn B w v0 from hv ▸ TJ.out.drewN _)
        clear hv c1 c10 NJ TJ HST
        have c3 : v0.cell? ⟨c, 3, none⟩ = some (.slice (some ⟨pq, 0, none⟩) SJ.L.length cp) := NV.out.cell 3
        have d3 := NV.out.at_row k hkj
        have e0 := (NV.out.at_page k hkj j hjj).1
        have e1 := (NV.out.at_page k hkj j hjj).2
        have N3 := NV.out.setPage k hkj j S1.blank
        rw [HNZ.out, HPJ.out, HBJ.out, HFY.out] at N3
        have N4 := hide N3
        have T4 := hide (TV.out.trans (NV.out.turnPage k hkj j (.string nz)))
        have hgc := HGC.out
        have hgp := HGP.out
        clear N3
        go_wp2_with fail
        go_roundw
        case rel => exact ⟨j + 1, by omega, by go_num, N4.out, T4.out⟩
        case measure => simp [intOf]; omega
      · obtain rfl : j = S.pgs := by omega
        have c5 : wr.cell? ⟨c, 5, none⟩ = some (.slice (some ⟨e, 0, none⟩) S1.L.length S1.L.length) := by
          have := hn.cell 5
          rw [this]
          show some (Value.slice (some ⟨e, 0, none⟩) (S1.put k _).L.length (S1.put k _).L.length) = _
          rw [put_length]
        have hkp : k < (S1.put k (wipeB S1 k (fun _ => true) S.pgs)).L.length := by rw [put_length]; exact hk1
        have hbp := blk_put_self S1 k (wipeB S1 k (fun _ => true) S.pgs) hk1
        have de := (hn.at_eras k hkp).1
        have fe := (hn.at_eras k hkp).2
        rw [hbp, show (wipeB S1 k (fun _ => true) S.pgs).erased = (S.blk k).erased by show (S1.blk k).erased = _; rw [HBB.out]] at de
        have hwe : IntKind.i64.wrap ((S.blk k).erased + 1) = (S.blk k).erased + 1 := by rw [IntKind.wrap_i64]; omega
        have N5 := hn.setEras k hkp ((S.blk k).erased + 1)
        rw [put_put, hbp] at N5
        have HN5 := hide N5
        have T5 := hide (TJ.out.trans (hn.turnEras k (.int .i64 ((S.blk k).erased + 1))))
        have HEQ := hide (show ({ wipeB S1 k (fun _ => true) S.pgs with erased := (S.blk k).erased + 1 } : BlkM) = { S.blk k with pages := wipeP S.blank (S.blk k).pages S.pgs, next := 0, erased := (S.blk k).erased + 1 } by
          unfold wipeB
          rw [wipeG_all, wipeN_all _ _ _ (by rw [HBB.out, HLN.out]; exact Nat.le_refl _), HBB.out, HBL.out])
        clear hn N5 hbp
        go_wp2_with fail
        go_ret
        refine ⟨ret_int HFE.out, ?_, T5.out⟩
        rw [HFR.out, ← HEQ.out]
        exact HN5.out
set_option maxRecDepth 100000 in
set_option maxHeartbeats 2000000 in
theorem rerase_cut (hS : NandOk S) (hZ : Sized S) (hB1 : S.blank.1.size = S.size) (hBk : BlankOk S) (k : Nat) (w : World) (h : RefAt w c pq n e a f m cp G B S) (ha : askE S (k : Int) 0 = 0) (hE : sinE (S.blk k) false = 0) (hfz : S.fuse = 1) :
    Calls Try.prog 17 #[.pointer (some ⟨c, 0, none⟩), .int .i64 (k : Int)] w (RefIs c pq n e a f m cp G B (eraseCut S k) (.int .i64 9) w) := by
  obtain ⟨ho, -, hk', -, hi'⟩ := askE_in ha
  have hk : k < S.L.length := by omega
  have hfew := h.few
  have HASK := hide (ready_any (k : Int) 0 w h)
  rw [ha] at HASK
  have c7 : w.cell? ⟨c, 7, none⟩ = some (.slice (some ⟨f, 0, none⟩) S.L.length S.L.length) := h.cell 7
  have df := (h.at_fail k hk).1
  have h1 : (S.blk k).failed = false ∧ (S.blk k).mill = false := by
    unfold sinE at hE
    cases h2 : (S.blk k).failed <;> cases h3 : (S.blk k).mill <;> simp [h2, h3] at hE ⊢
  rw [h1.1, h1.2] at df
  have hmill := h1.2
  have c13 : w.cell? ⟨c, 13, none⟩ = some (.int .i64 S.eras) := h.cell 13
  have f13 := h.free 13
  have hw2 : IntKind.i64.wrap (S.eras + 1) = S.eras + 1 := by rw [IntKind.wrap_i64]; have := hS.eras; omega
  have N2 := hide (h.setHead 13 (.int .i64 (S.eras + 1)) (erasS S) rfl rfl rfl)
  have T2 := hide (h.turnHead 13 (.int .i64 (S.eras + 1)))
  have HLN := hide (h.len k hk)
  have HOK := hide hS
  have HC := hide (rcut_any (S := erasS S) ho hS.fuse.1 hS.fuse.2 _ N2.out)
  obtain ⟨S1, hS1⟩ : ∃ S1, S1 = cutS (erasS S) := ⟨_, rfl⟩
  rw [← hS1] at HC
  rw [show (erasS S).fuse = S.fuse from rfl] at HC
  have hb1 : S1.blk k = S.blk k := by rw [hS1, cut_blk]; rfl
  have hl1 : S1.L.length = S.L.length := by rw [hS1, cut_len]; rfl
  have hg1 : S1.pgs = S.pgs := by rw [hS1, cut_pgs]; rfl
  have hz1 : S1.size = S.size := by rw [hS1, cut_size]; rfl
  have hbl1 : S1.blank = S.blank := by rw [hS1, cut_blank]; rfl
  have ht1 : S1.torn = S.torn := by rw [hS1, cut_torn]; rfl
  have hk1 : k < S1.L.length := by omega
  have HNZ := hide (show S1.blank.1 ++ S1.blank.2 = fillZ (S.size + 32) 255 by rw [hbl1]; exact hBk)
  have HPG := hide (show ∀ j, j < S.pgs → ((S1.blk k).pages.getD j pg0).1.size = S1.blank.1.size by
    intro j hj
    rw [hb1, hbl1, (hZ k j hk hj).1, hB1])
  have HRS := hide (show erasedS S k = if (S.blk k).weak = true then S1.put k { S.blk k with failed := true }
    else S1.put k { S.blk k with pages := wipeP S.blank (S.blk k).pages S.pgs, next := 0, erased := (S.blk k).erased + 1 } by rw [hS1]; rfl)
  have HRE := hide (show erasedE S k = if (S.blk k).weak = true then 10 else 0 from rfl)
  have HRC := hide (show eraseCut S k = S1.put k (wipeB S1 k (goneB S.torn) S.pgs) by rw [hS1]; rfl)
  have HBB := hide hb1
  have HBL := hide hbl1
  have hzs := hS.size
  clear h ha hS hS1 h1 hb1 hbl1 hBk hB1 hZ
  go_enter Try.func17, Try.ntmps17
  go_wp2_with fail
  refine HASK.out.mono ?_
  rintro e0 w1 ⟨rfl, rfl⟩
  go_wp2_with fail
  clear c7 df c13 f13 HASK
  generalize w.setCell ⟨c, 13, none⟩ (.int .i64 (S.eras + 1)) = w2 at *
  rw [decide_eq_true hfz] at HC
  refine HC.out.mono ?_
  rintro e0 w4 ⟨rfl, hn, ht⟩
  have N4 := hide hn
  have T4 := hide (T2.out.trans ht)
  clear hn ht HC N2 T2
  clear hfz hE HRS HRE hmill
  have htz := HOK.out.torn
  have c2 : w4.cell? ⟨c, 2, none⟩ = some (.int .i64 (S.size : Int)) := by rw [← hz1]; exact N4.out.cell 2
  have HBC := hide (blank_any (c := c) S.size hzs w4 c2)
  go_wp2_with fail
  refine HBC.out.mono ?_
  rintro e0 w5 ⟨rfl, hb⟩
  have N5 := hide (N4.out.below hb)
  have T5 := hide (T4.out.trans (RTurn.of_below hb N4.out.size))
  clear hb N4 T4 HBC c2
  generalize fillZ (S.size + 32) 255 = nz at *
  have c4 : w5.cell? ⟨c, 4, none⟩ = some (.slice (some ⟨n, 0, none⟩) S1.L.length S1.L.length) := N5.out.cell 4
  have dn := (N5.out.at_next k hk1).1
  have fn := (N5.out.at_next k hk1).2
  have N6 := hide (show RefAt (w5.setCell ⟨n, k, none⟩ (.int .i64 0)) c pq n e a f m cp G B (S1.put k (wipeB S1 k (goneB S.torn) 0)) from N5.out.setNext k hk1 0)
  have T6 := hide (T5.out.trans (N5.out.turnNext k (.int .i64 0)))
  clear N5 T5
  go_wp2_with fail
  clear c4 dn fn
  generalize w5.setCell ⟨n, k, none⟩ (.int .i64 0) = w6 at *
  go_loopw [8] (fun x W => ∃ j : Nat, j ≤ S.pgs ∧ x = .int .i64 j ∧ RefAt W c pq n e a f m cp G B (S1.put k (wipeB S1 k (goneB S.torn) j)) ∧ RTurn B w W) (fun x _ => S.pgs - (intOf x).toNat)
  case atStart => exact ⟨0, by omega, rfl, N6.out, T6.out⟩
  case round =>
    clear N6 T6
    obtain ⟨j, hj, rfl, hn, ht⟩ := hrel
    have TJ := hide ht
    clear ht
    have c1 : wr.cell? ⟨c, 1, none⟩ = some (.int .i64 (S.pgs : Int)) := by rw [← hg1]; exact hn.cell 1
    by_cases hlt : j < S.pgs
    · obtain ⟨SJ, hSJ⟩ : ∃ SJ, SJ = S1.put k (wipeB S1 k (goneB S.torn) j) := ⟨_, rfl⟩
      rw [← hSJ] at hn
      have hbj : SJ.blk k = wipeB S1 k (goneB S.torn) j := by rw [hSJ]; exact blk_put_self S1 k _ hk1
      have hlj : SJ.L.length = S1.L.length := by rw [hSJ]; exact put_length S1 k _
      have hkj : k < SJ.L.length := by omega
      have hpj : SJ.pgs = S.pgs := by rw [hSJ]; exact hg1
      have hjj : j < SJ.pgs := by omega
      have HPJ := hide (show ∀ y, SJ.put k y = S1.put k y from fun y => by rw [hSJ]; exact put_put S1 k _ y)
      have HYJ := hide (show (SJ.blk k).pages.getD j pg0 = (S1.blk k).pages.getD j pg0 by rw [hbj]; exact wipeG_later _ _ _ _ _ (Nat.le_refl j))
      have hjl : j < (S1.blk k).pages.length := by rw [HBB.out, HLN.out]; exact hlt
      have c10 : wr.cell? ⟨c, 10, none⟩ = some (.string S.torn) := by rw [← ht1, show S1.torn = SJ.torn by rw [hSJ]; rfl]; exact hn.cell 10
      have HST := hide (show RefAt wr c pq n e a f m cp G B (S1.put k (wipeB S1 k (goneB S.torn) j)) by rw [← hSJ]; exact hn)
      have NJ := hide hn
      have HBJ := hide hbj
      have HGC := hide (show G k ≠ c from ne_of_type (hn.page k hkj) hn.head (by decide))
      have HGP := hide (show G k ≠ pq from by obtain ⟨cur, h1, -⟩ := hn.rows; exact ne_of_type (hn.page k hkj) h1 (by decide))
      clear hn hSJ hbj
      by_cases hz : S.torn.size = 0
      · have HGJ := hide (show goneB S.torn j = true by unfold goneB; rw [hz]; rfl)
        rw [size_zero _ hz] at c10
        clear hz
        have hgt : (goneB S.torn) j = true := HGJ.out
        have HFY := hide (wipeB_yes S1 k (goneB S.torn) j hgt hjl)
        clear hgt
        go_upto_region 17 with (fail)
        go_quiet (fail)
        generalize hv : wr.drewN _ = v0
        have NV := hide (show RefAt v0 c pq n e a f m cp G B SJ from hv ▸ NJ.out.drewN _)
        have TV := hide (show RTurn B w v0 from hv ▸ TJ.out.drewN _)
        clear hv c1 c10 NJ TJ HST
        have c3 : v0.cell? ⟨c, 3, none⟩ = some (.slice (some ⟨pq, 0, none⟩) SJ.L.length cp) := NV.out.cell 3
        have d3 := NV.out.at_row k hkj
        have e0 := (NV.out.at_page k hkj j hjj).1
        have e1 := (NV.out.at_page k hkj j hjj).2
        have N3 := NV.out.setPage k hkj j S1.blank
        rw [HNZ.out, HPJ.out, HBJ.out, HFY.out] at N3
        have N4 := hide N3
        have T4 := hide (TV.out.trans (NV.out.turnPage k hkj j (.string nz)))
        have hgc := HGC.out
        have hgp := HGP.out
        clear N3
        go_wp2_with fail
        go_roundw
        case rel => exact ⟨j + 1, by omega, by go_num, N4.out, T4.out⟩
        case measure => simp [intOf]; omega
      · have hne0 : S.torn.toList.isEmpty = false := by
          rw [ByteArray.toList_eq]
          cases hq : S.torn.data.toList with
          | nil =>
            have h1 : S.torn.data.toList.length = 0 := by rw [hq]; rfl
            rw [size_list] at h1
            exact absurd h1 hz
          | cons a l => rfl
        have hm9 : j % S.torn.size < S.torn.size := Nat.mod_lt _ (by omega)
        have htm : (j : Int).tmod (S.torn.size : Int) = ((j % S.torn.size : Nat) : Int) := by rw [Int.tmod_eq_emod_of_nonneg (by omega)]; simp
        have htm1 : 0 ≤ (j : Int).tmod (S.torn.size : Int) := by rw [htm]; omega
        have htm2 : (j : Int).tmod (S.torn.size : Int) < (S.torn.size : Int) := by rw [htm]; omega
        have hr1 : 0 ≤ (j : Int) % (S.torn.size : Int) := by omega
        have hr2 : (j : Int) % (S.torn.size : Int) < (S.torn.size : Int) := by omega
        have HGO := hide (show goneB S.torn j = ((S.torn[j % S.torn.size]'hm9).toNat % 2 == 1) by
          unfold goneB
          rw [show (S.torn.size == 0) = false from beq_eq_false_iff_ne.2 hz, Bool.false_or]
          congr 3
          show S.torn.data[j % S.torn.size]! = _
          rw [getElem!_pos S.torn.data (j % S.torn.size) hm9]
          rfl)
        have hsz0 : ((S.torn.size : Int) == 0) = false := by simpa using hz
        have hq9 : ((j : Int) % (S.torn.size : Int)).toNat < S.torn.size := by omega
        have hqe : (S.torn[((j : Int) % (S.torn.size : Int)).toNat]'hq9) = (S.torn[j % S.torn.size]'hm9) := by
          have e1 : ((j : Int) % (S.torn.size : Int)).toNat = j % S.torn.size := by rw [show (j : Int) % (S.torn.size : Int) = ((j % S.torn.size : Nat) : Int) by simp, Int.toNat_natCast]
          simp only [e1]
        have hby := (S.torn[j % S.torn.size]'hm9).toNat_lt
        by_cases hodd : (S.torn[j % S.torn.size]'hm9).toNat % 2 = 1
        · have HGJ := hide (show goneB S.torn j = true by rw [HGO.out, hodd]; rfl)
          have hodU : (((S.torn[j % S.torn.size]'hm9).toNat : Int) % 2 == 1) = true := by rw [show ((S.torn[j % S.torn.size]'hm9).toNat : Int) % 2 = 1 by omega]; rfl
          clear HGO hby hodd
          have hgt : (goneB S.torn) j = true := HGJ.out
          have HFY := hide (wipeB_yes S1 k (goneB S.torn) j hgt hjl)
          clear hgt
          go_upto_region 17 with (fail)
          go_quiet (fail)
          try simp only [hqe]
          try simp only [Int.tmod_eq_emod_of_nonneg (Int.natCast_nonneg _)]
          try simp only [hodU, hsz0, Bool.false_or]
          generalize hv : wr.drewN _ = v0
          have NV := hide (show RefAt v0 c pq n e a f m cp G B SJ from hv ▸ NJ.out.drewN _)
          have TV := hide (show RTurn B w v0 from hv ▸ TJ.out.drewN _)
          clear hv c1 c10 NJ TJ HST
          have c3 : v0.cell? ⟨c, 3, none⟩ = some (.slice (some ⟨pq, 0, none⟩) SJ.L.length cp) := NV.out.cell 3
          have d3 := NV.out.at_row k hkj
          have e0 := (NV.out.at_page k hkj j hjj).1
          have e1 := (NV.out.at_page k hkj j hjj).2
          have N3 := NV.out.setPage k hkj j S1.blank
          rw [HNZ.out, HPJ.out, HBJ.out, HFY.out] at N3
          have N4 := hide N3
          have T4 := hide (TV.out.trans (NV.out.turnPage k hkj j (.string nz)))
          have hgc := HGC.out
          have hgp := HGP.out
          clear N3
          go_wp2_with fail
          go_roundw
          case rel => exact ⟨j + 1, by omega, by go_num, N4.out, T4.out⟩
          case measure => simp [intOf]; omega
        · have HGJ := hide (show goneB S.torn j = false by rw [HGO.out, show (S.torn[j % S.torn.size]'hm9).toNat % 2 = 0 by omega]; rfl)
          have hodU : (((S.torn[j % S.torn.size]'hm9).toNat : Int) % 2 == 1) = false := by rw [show ((S.torn[j % S.torn.size]'hm9).toNat : Int) % 2 = 0 by omega]; rfl
          clear HGO hby hodd
          have hgt : (goneB S.torn) j = false := HGJ.out
          go_upto_region 17 with (fail)
          go_quiet (fail)
          try simp only [hqe]
          try simp only [Int.tmod_eq_emod_of_nonneg (Int.natCast_nonneg _)]
          try simp only [hodU, hsz0, Bool.false_or]
          generalize hv : wr.drewN _ = v0
          have NV := hide (show RefAt v0 c pq n e a f m cp G B SJ from hv ▸ NJ.out.drewN _)
          have HSV := hide (show RefAt v0 c pq n e a f m cp G B (S1.put k (wipeB S1 k (goneB S.torn) j)) from hv ▸ HST.out.drewN _)
          have TV := hide (show RTurn B w v0 from hv ▸ TJ.out.drewN _)
          clear hv c1 c10 NJ TJ HST
          have c3 : v0.cell? ⟨c, 3, none⟩ = some (.slice (some ⟨pq, 0, none⟩) SJ.L.length cp) := NV.out.cell 3
          have d3 := NV.out.at_row k hkj
          have e0 := (NV.out.at_page k hkj j hjj).1
          rw [HYJ.out] at e0
          by_cases hy : (S1.blk k).pages.getD j pg0 = S1.blank
          · rw [hy, HNZ.out] at e0
            have HFN := hide (wipeB_no S1 k (goneB S.torn) j hgt hy)
            clear hy hgt
            go_wp2_with fail
            go_roundw
            case rel => exact ⟨j + 1, by omega, by go_num, by rw [← HFN.out]; exact HSV.out, TV.out⟩
            case measure => simp [intOf]; omega
          · have HFN := hide (wipeB_not S1 k (goneB S.torn) j hgt hy)
            have hne := list_ne _ _ (show ¬ ((S1.blk k).pages.getD j pg0).1 ++ ((S1.blk k).pages.getD j pg0).2 = nz from fun h => hy (pg_eq _ _ (HPG.out j hlt) (by rw [HNZ.out]; exact h)))
            generalize ((S1.blk k).pages.getD j pg0).1 ++ ((S1.blk k).pages.getD j pg0).2 = yy at *
            have c4 : v0.cell? ⟨c, 4, none⟩ = some (.slice (some ⟨n, 0, none⟩) SJ.L.length SJ.L.length) := NV.out.cell 4
            have dn := (NV.out.at_next k hkj).1
            have fn := (NV.out.at_next k hkj).2
            have hwj : IntKind.i64.wrap ((j : Int) + 1) = (j : Int) + 1 := by rw [IntKind.wrap_i64]; omega
            have N3 := NV.out.setNext k hkj ((j : Int) + 1)
            rw [HPJ.out, HBJ.out, HFN.out] at N3
            have N4 := hide N3
            have T4 := hide (TV.out.trans (NV.out.turnNext k (.int .i64 ((j : Int) + 1))))
            clear hy hgt N3
            go_wp2_with fail
            go_roundw
            case rel => exact ⟨j + 1, by omega, by go_num, N4.out, T4.out⟩
            case measure => simp [intOf]; omega
    · obtain rfl : j = S.pgs := by omega
      have NE := hide hn
      clear hn
      go_wp2_with fail
      go_ret
      refine ⟨rfl, ?_, TJ.out⟩
      rw [HRC.out]
      exact NE.out
theorem rerase_any (hS : NandOk S) (hZ : Sized S) (hB1 : S.blank.1.size = S.size) (hBk : BlankOk S) (hF : FewE S) (b : Int) (w : World) (h : RefAt w c pq n e a f m cp G B S) :
    Calls Try.prog 17 #[.pointer (some ⟨c, 0, none⟩), .int .i64 b] w (RefIs c pq n e a f m cp G B (eraseT S b).1 (.int .i64 (eraseT S b).2) w) := by
  by_cases ha : askE S b 0 = 0
  · obtain ⟨-, h0, h1, -, -⟩ := askE_in ha
    obtain ⟨k, rfl⟩ : ∃ k : Nat, (k : Int) = b := ⟨b.toNat, by omega⟩
    by_cases hE : sinE (S.blk k) false = 0
    · by_cases hf : S.fuse = 1
      · have e1 : eraseT S (k : Int) = (eraseCut S k, 9) := by unfold eraseT; rw [if_neg (fun h => h ha), Int.toNat_natCast, if_neg (fun h => h hE), if_pos hf]
        rw [e1]
        exact rerase_cut hS hZ hB1 hBk k w h ha hE hf
      · have e1 : eraseT S (k : Int) = (erasedS S k, erasedE S k) := by unfold eraseT; rw [if_neg (fun h => h ha), Int.toNat_natCast, if_neg (fun h => h hE), if_neg hf]
        rw [e1]
        exact rerase_go hS hZ hB1 hBk k w h ha hE hf (hF k (by omega))
    · have e1 : eraseT S (k : Int) = (sinS S k false, sinE (S.blk k) false) := by unfold eraseT; rw [if_neg (fun h => h ha), Int.toNat_natCast, if_pos hE]
      rw [e1]
      exact rerase_sin hS k w h ha hE
  · have e1 : eraseT S b = (S, askE S b 0) := by unfold eraseT; rw [if_pos ha]
    rw [e1]
    exact rerase_ask b w h ha
end
end Go.Proofs.Ythippbckjldijaa
