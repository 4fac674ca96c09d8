/-
  Layer 5, the program's calls, twelfth part: Erase, where the power isn't cut.
-/
import Derived.Test.YthippbckjldijaaNand11
namespace Go.Proofs.Ythippbckjldijaa
set_option linter.unusedSimpArgs false
set_option linter.unusedVariables false
open Go.RowKit Go.WideShapes Go.ChangeShapes Go.ChangeAt Go.Deep

theorem erase_nil (b : Int) (w : World) : Calls Try.prog 16 #[.pointer none, .int .i64 b] w fun e w' => e = .returned (.int .i64 1) ∧ w = w' := by
  go_enter Try.func16, Try.ntmps16
  go_wp2_with fail
  refine (ask_nil b 0 w).mono ?_
  rintro e0 w1 ⟨rfl, rfl⟩
  go_wp2_with fail
  go_ret
  exact ⟨rfl, rfl⟩
theorem erase_ask (p q B : Nat) (G : Nat → Nat) (S : ChipM) (b : Int) (w : World) (h : NandAt w p q B G S) (ha : askE S b 0 ≠ 0) :
    Calls Try.prog 16 #[.pointer (some ⟨p, 0, none⟩), .int .i64 b] w (NandIs p q B G S (.int .i64 (askE S b 0)) w) := by
  have HASK := hide (ask_any p q B G S b 0 w h)
  have HH := hide h
  clear h
  generalize askE S b 0 = ae at *
  go_enter Try.func16, Try.ntmps16
  go_wp2_with fail
  refine HASK.out.mono ?_
  rintro e0 w1 ⟨rfl, rfl⟩
  go_wp2_with fail
  go_ret
  exact ⟨rfl, HH.out, Turn.refl _ _⟩
set_option maxRecDepth 100000 in
set_option maxHeartbeats 400000 in
theorem erase_sin (p q B : Nat) (G : Nat → Nat) (S : ChipM) (hS : NandOk S) (k : Nat) (w : World) (h : NandAt w p q B G S) (ha : askE S (k : Int) 0 = 0) (hE : sinE (S.blk k) false ≠ 0) :
    Calls Try.prog 16 #[.pointer (some ⟨p, 0, none⟩), .int .i64 (k : Int)] w (NandIs p q B G (sinS S k false) (.int .i64 (sinE (S.blk k) false)) w) := by
  obtain ⟨ho, -, hk', -, hi'⟩ := askE_in ha
  have hk : k < S.L.length := by omega
  have HASK := hide (ask_any p q B G S (k : Int) 0 w h)
  rw [ha] at HASK
  have HAT := hide (at_yes p q B G S k hk w h)
  have HS := hide (sin_any p q B G S k hk false hS.sins.1 (by have := hS.sins.2; omega) w h)
  clear h ha hS
  generalize sinE (S.blk k) false = E at *
  go_enter Try.func16, Try.ntmps16
  go_wp2_with fail
  refine HASK.out.mono ?_
  rintro e0 w1 ⟨rfl, rfl⟩
  go_wp2_with fail
  refine HAT.out.mono ?_
  rintro e0 w1 ⟨rfl, rfl⟩
  go_wp2_with fail
  refine HS.out.mono ?_
  rintro e0 w2 ⟨rfl, hn, ht⟩
  have N2 := hide hn
  have T2 := hide ht
  clear hn ht
  go_wp2_with fail
  go_ret
  exact ⟨rfl, N2.out, T2.out⟩
/-- what an Erase turns that isn't cut -/
def erasedS (S : ChipM) (k : Nat) : ChipM :=
  let S1 := cutS (erasS S)
  if (S.blk k).weak = true then S1.put k { S.blk k with failed := true }
  else S1.put k { S.blk k with pages := wipeP S.blank (S.blk k).pages S.pgs, next := 0, erased := (S.blk k).erased + 1 }
def erasedE (S : ChipM) (k : Nat) : Int := if (S.blk k).weak = true then 10 else 0
theorem cut_blank (S : ChipM) : (cutS S).blank = S.blank := by unfold cutS; split <;> rfl
set_option maxRecDepth 100000 in
set_option maxHeartbeats 1000000 in
theorem erase_go (p q B : Nat) (G : Nat → Nat) (S : ChipM) (hS : NandOk S) (k : Nat) (w : World) (h : NandAt w p q B G S) (ha : askE S (k : Int) 0 = 0) (hE : sinE (S.blk k) false = 0) (hfz : ¬ S.fuse = 1) (her : 0 ≤ (S.blk k).erased ∧ (S.blk k).erased ≤ 1000000) :
    Calls Try.prog 16 #[.pointer (some ⟨p, 0, none⟩), .int .i64 (k : Int)] w (NandIs p q B G (erasedS S k) (.int .i64 (erasedE S k)) w) := by
  obtain ⟨ho, -, hk', -, hi'⟩ := askE_in ha
  have hk : k < S.L.length := by omega
  have HASK := hide (ask_any p q B G S (k : Int) 0 w h)
  rw [ha] at HASK
  have HAT := hide (at_yes p q B G S k hk w h)
  have HS := hide (sin_any p q B G S k hk false hS.sins.1 (by have := hS.sins.2; omega) w h)
  rw [show sinS S k false = S by unfold sinS; rw [if_pos hE], hE] at HS
  have HC := hide (fun W hW => cut_eras p q B G S hS.eras.1 (by have := hS.eras.2; omega) hS.fuse.1 hS.fuse.2 W hW)
  rw [decide_eq_false hfz] at HC
  obtain ⟨S1, hS1⟩ : ∃ S1, S1 = cutS (erasS S) := ⟨_, rfl⟩
  rw [← hS1] at HC
  have hb1 : S1.blk k = S.blk k := by rw [hS1, cut_blk]; rfl
  have hl1 : k < S1.L.length := by rw [hS1, cut_len]; exact hk
  have hg1 : S1.pgs = S.pgs := by rw [hS1, cut_pgs]; rfl
  have hbl1 : S1.blank = S.blank := by rw [hS1, cut_blank]; rfl
  have HR := hide (show erasedS S k = if (S.blk k).weak = true then S1.put k { S.blk k with failed := true }
    else S1.put k { S.blk k with pages := wipeP S.blank (S.blk k).pages S.pgs, next := 0, erased := (S.blk k).erased + 1 } by rw [hS1]; rfl)
  have HRE := hide (show erasedE S k = if (S.blk k).weak = true then 10 else 0 from rfl)
  have HB1 := hide hb1
  have HG1 := hide hg1
  have HBL := hide hbl1
  clear h ha hS hE hS1 hb1 hg1 hbl1 hfz
  go_enter Try.func16, Try.ntmps16
  go_wp2_with fail
  refine HASK.out.mono ?_
  rintro e0 w1 ⟨rfl, rfl⟩
  go_wp2_with fail
  refine HAT.out.mono ?_
  rintro e0 w1 ⟨rfl, rfl⟩
  go_wp2_with fail
  refine HS.out.mono ?_
  rintro e0 w2 ⟨rfl, hn, ht⟩
  have N2 := hide hn
  have T2 := hide ht
  clear hn ht HASK HAT HS
  go_wp2_with fail
  refine (HC.out _ N2.out).mono ?_
  rintro e0 w3 ⟨rfl, hn, ht⟩
  have N3 := hide hn
  have T3 := hide (T2.out.trans ht)
  clear hn ht N2 T2 HC
  have d4 : w3.cell? ⟨q, k * 6 + 4, none⟩ = some (.bool (S.blk k).weak) := by rw [← HB1.out]; exact N3.out.slot k hl1 4 (by decide)
  have d5 : w3.cell? ⟨q, k * 6 + 5, none⟩ = some (.bool (S1.blk k).failed) := N3.out.slot k hl1 5 (by decide)
  have f5 := N3.out.row.free (k * 6 + 5)
  cases hwk : (S.blk k).weak with
  | true =>
    rw [hwk] at d4
    have hset := N3.out.setBlk k hl1 5 (by decide) (.bool true) { S1.blk k with failed := true } rfl rfl
    rw [HB1.out] at hset
    have N4 := hide hset
    have T4 := hide (T3.out.trans (N3.out.turnBlk (k * 6 + 5) (.bool true)))
    clear hset
    go_wp2_with fail
    go_ret
    refine ⟨ret_int (by rw [HRE.out, hwk, if_pos rfl]), ?_, T4.out⟩
    rw [HR.out, if_pos hwk]
    exact N4.out
  | false =>
    rw [hwk] at d4
    go_wp2_with fail
    refine (wipe_all p q B G S1 k hl1 w3 N3.out).mono ?_
    rintro e0 w4 ⟨rfl, hn, ht⟩
    have T4 := hide (T3.out.trans ht)
    rw [HB1.out, HBL.out, HG1.out] at hn
    have N4 := hide hn
    clear hn ht d4 d5 f5 N3 T3
    have hk4 : k < (S1.put k { S.blk k with pages := wipeP S.blank (S.blk k).pages S.pgs, next := 0 }).L.length := by rw [put_length]; exact hl1
    have hb4 := blk_put_self S1 k { S.blk k with pages := wipeP S.blank (S.blk k).pages S.pgs, next := 0 } hl1
    have d2 : w4.cell? ⟨q, k * 6 + 2, none⟩ = some (.int .i64 (S.blk k).erased) := by
      refine (show _ = _ from N4.out.slot k hk4 2 (by decide)).trans ?_
      rw [hb4]; rfl
    have f2 := N4.out.row.free (k * 6 + 2)
    have hset := N4.out.setBlk k hk4 2 (by decide) (.int .i64 ((S.blk k).erased + 1)) { S.blk k with pages := wipeP S.blank (S.blk k).pages S.pgs, next := 0, erased := (S.blk k).erased + 1 } (by rw [hb4]) (by rw [hb4]; rfl)
    rw [put_put] at hset
    have N5 := hide hset
    have T5 := hide (T4.out.trans (N4.out.turnBlk (k * 6 + 2) (.int .i64 ((S.blk k).erased + 1))))
    have hwr : IntKind.i64.wrap ((S.blk k).erased + 1) = (S.blk k).erased + 1 := by rw [IntKind.wrap_i64]; omega
    clear hset hk4 hb4
    go_wp2_with fail
    go_ret
    refine ⟨ret_int (by rw [HRE.out, hwk, if_neg (by decide)]), ?_, T5.out⟩
    rw [HR.out, if_neg (by rw [hwk]; decide)]
    exact N5.out
end Go.Proofs.Ythippbckjldijaa
