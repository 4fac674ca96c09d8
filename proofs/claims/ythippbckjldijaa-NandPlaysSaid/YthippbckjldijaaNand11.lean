/-
  Layer 5, the program's calls, eleventh part: wipe of a whole block.
-/
import Derived.Test.YthippbckjldijaaNand10
namespace Go.Proofs.Ythippbckjldijaa
set_option linter.unusedSimpArgs false
set_option linter.unusedVariables false
open Go.RowKit Go.WideShapes Go.ChangeShapes Go.ChangeAt Go.Deep

theorem fieldsPg : fdesc (Try.prog.fieldsOf 70).toList = [("data", 9, 0), ("beside", 9, 1)] := by kernel_rfl
theorem eq_pg (a b a' b' : ByteArray) (w : World) : (Op.equalIn 10000 70 (.agg #[.string a, .string b]) (.agg #[.string a', .string b'])).run Try.prog w =
    .ok (a.toList == a'.toList && (b.toList == b'.toList && true)) w := by
  rw [run_equalIn_agg w 9999 70 _ _ (by kernel_rfl) (by kernel_rfl)]
  exact eqF_cons w _ _ _ fieldsPg (by decide) (by kernel_rfl) (by kernel_rfl) (run_equalIn_string w 9998 9 _ _ Try.underlying9) fun l h =>
    eqF_cons w _ _ _ h (by decide) (by kernel_rfl) (by kernel_rfl) (run_equalIn_string w 9998 9 _ _ Try.underlying9) fun l h => eqF_nil w _ _ _ h
theorem neq_pg (a b : ByteArray) (w : World) : (binOp .neq 70 (.agg #[.string a, .string b]) (.agg #[.string a, .string b])).run Try.prog w = .ok (.bool false) w := by
  rw [run_neq_struct, eq_pg]
  simp
theorem guard_pg (x y : Operand) (a b : Array Value) (w : World) : (eqGuard .neq 70 x y (.agg a) (.agg b)).run Try.prog w = .ok () w := run_eqGuard_agg w .neq 70 x y a b (by kernel_rfl)
theorem gone_all (i : Int) (w : World) : Calls Try.prog 46 #[.int .i64 i] w fun e w' => e = .returned (.bool true) ∧ w = w' := by
  go_enter Try.func46, Try.ntmps46
  go_wp2_with fail
  go_ret
  exact ⟨rfl, rfl⟩
/-- the first j pages are erased -/
def wipeP (x : Pg) (L : List Pg) : Nat → List Pg
  | 0 => L
  | j + 1 => (wipeP x L j).set j x
theorem wipeP_length (x : Pg) (L : List Pg) : ∀ j, (wipeP x L j).length = L.length
  | 0 => rfl
  | j + 1 => by rw [wipeP, List.length_set, wipeP_length x L j]
set_option maxRecDepth 100000 in
set_option maxHeartbeats 400000 in
theorem wipe_all (p q B : Nat) (G : Nat → Nat) (S : ChipM) (k : Nat) (hk : k < S.L.length) (w : World) (h : NandAt w p q B G S) :
    Calls Try.prog 44 #[.pointer (some ⟨p, 0, none⟩), .pointer (some ⟨q, k * 6, none⟩), .func (.func 46) #[] #[]] w (NandIs p q B G (S.put k { S.blk k with pages := wipeP S.blank (S.blk k).pages S.pgs, next := 0 }) (.tuple #[]) w) := by
  have hg64 := h.few.2
  have d1 : w.cell? ⟨q, k * 6 + 1, none⟩ = some (.int .i64 (S.blk k).next) := h.slot k hk 1 (by decide)
  have f1 := h.row.free (k * 6 + 1)
  have hset := h.setBlk k hk 1 (by decide) (.int .i64 0) { S.blk k with next := 0 } rfl rfl
  have N1 := hide hset
  have T1 := hide (h.turnBlk (k * 6 + 1) (.int .i64 0))
  have d0 : (w.setCell ⟨q, k * 6 + 1, none⟩ (.int .i64 0)).cell? ⟨q, k * 6, none⟩ = some (.slice (some ⟨G k, 0, none⟩) S.pgs S.pgs) := by
    refine (show _ = _ from hset.slot k (by rw [put_length]; exact hk) 0 (by decide)).trans ?_
    rw [blk_put_self S k _ hk, ← h.len k hk]; rfl
  have d0' : w.cell? ⟨q, k * 6, none⟩ = some (.slice (some ⟨G k, 0, none⟩) S.pgs S.pgs) := by
    have := h.slot k hk 0 (by decide)
    rw [Nat.add_zero] at this
    rw [this, ← h.len k hk]; rfl
  have HL := hide (h.len k hk)
  clear h hset
  go_enter Try.func44, Try.ntmps44
  go_wp2_with fail
  clear d0 d0' d1 f1
  generalize w.setCell ⟨q, k * 6 + 1, none⟩ (.int .i64 0) = w1 at *
  go_loopw [15] (fun i W => ∃ j : Nat, j ≤ S.pgs ∧ i = .int .i64 j ∧ NandAt W p q B G (S.put k { S.blk k with pages := wipeP S.blank (S.blk k).pages j, next := 0 }) ∧ Turn B w W) (fun i _ => S.pgs - (intOf i).toNat)
  case atStart => exact ⟨0, by omega, rfl, N1.out, T1.out⟩
  case round =>
    obtain ⟨j, hj, rfl, hn, ht⟩ := hrel
    have NJ := hide hn
    have TJ := hide ht
    clear hn ht
    by_cases hlt : j < S.pgs
    · obtain ⟨SJ, hSJ⟩ : ∃ SJ, SJ = S.put k { S.blk k with pages := wipeP S.blank (S.blk k).pages j, next := 0 } := ⟨_, rfl⟩
      have hbj : SJ.blk k = { S.blk k with pages := wipeP S.blank (S.blk k).pages j, next := 0 } := by rw [hSJ, blk_put_self S k _ hk]
      have hkj : k < SJ.L.length := by rw [hSJ, put_length]; exact hk
      have hjj : j < SJ.pgs := by rw [hSJ]; exact hlt
      have hbl : SJ.blank = S.blank := by rw [hSJ]; rfl
      have hnext : SJ.put k { SJ.blk k with pages := (SJ.blk k).pages.set j S.blank } = S.put k { S.blk k with pages := wipeP S.blank (S.blk k).pages (j + 1), next := 0 } := by
        rw [hbj, hSJ, put_put]; rfl
      rw [← hSJ] at NJ
      have d0 : wr.cell? ⟨q, k * 6, none⟩ = some (.slice (some ⟨G k, 0, none⟩) S.pgs S.pgs) := by
        refine (show _ = _ from NJ.out.slot k hkj 0 (by decide)).trans ?_
        rw [hbj]
        show some (Value.slice _ (wipeP S.blank (S.blk k).pages j).length (wipeP S.blank (S.blk k).pages j).length) = _
        rw [wipeP_length, HL.out]
      have c3 : wr.cell? ⟨p, 3, none⟩ = some (.string S.blank.1) := by rw [← hbl]; exact NJ.out.cell 3
      have c4 : wr.cell? ⟨p, 4, none⟩ = some (.string S.blank.2) := by rw [← hbl]; exact NJ.out.cell 4
      have e0 := NJ.out.leaf k hkj j hjj 0 (by decide)
      have e1 := NJ.out.leaf k hkj j hjj 1 (by decide)
      simp only [pgC, List.getElem?_cons_zero, List.getElem?_cons_succ, Nat.add_zero] at e0 e1
      have g0 := (NJ.out.page k hkj).free (j * 2)
      have g1 := (NJ.out.page k hkj).free (j * 2 + 1)
      have N2 := hide ((NJ.out.setPage2 k hkj j hjj S.blank).drew)
      have T2 := hide ((TJ.out.trans (NJ.out.turnPage2 k hkj j hjj S.blank.1 S.blank.2)).drew)
      rw [hnext] at N2
      clear hnext hbj hSJ hbl
      go_wp2_with fail
      refine (gone_all _ _).mono ?_
      rintro e w2 ⟨rfl, rfl⟩
      go_upto_region 5 with (fail)
      go_still_tail 10, (by kernel_rfl)
      change wpList _ _ _ _ _ wr.drew
      go_wp2_with fail
      clear d0 c3 c4 e0 e1 g0 g1
      generalize ((wr.setCell ⟨G k, j * 2, none⟩ (.string S.blank.1)).setCell ⟨G k, j * 2 + 1, none⟩ (.string S.blank.2)).drew = w3 at *
      obtain ⟨SK, hSK⟩ : ∃ SK, SK = S.put k { S.blk k with pages := wipeP S.blank (S.blk k).pages (j + 1), next := 0 } := ⟨_, rfl⟩
      have hbk : SK.blk k = { S.blk k with pages := wipeP S.blank (S.blk k).pages (j + 1), next := 0 } := by rw [hSK, blk_put_self S k _ hk]
      have hkk : k < SK.L.length := by rw [hSK, put_length]; exact hk
      have hjk : j < SK.pgs := by rw [hSK]; exact hlt
      have hbl : SK.blank = S.blank := by rw [hSK]; rfl
      have N3 := hide (show NandAt w3 p q B G SK by rw [hSK]; exact N2.out)
      have d0 : w3.cell? ⟨q, k * 6, none⟩ = some (.slice (some ⟨G k, 0, none⟩) S.pgs S.pgs) := by
        refine (show _ = _ from N3.out.slot k hkk 0 (by decide)).trans ?_
        rw [hbk]
        show some (Value.slice _ (wipeP S.blank (S.blk k).pages (j + 1)).length (wipeP S.blank (S.blk k).pages (j + 1)).length) = _
        rw [wipeP_length, HL.out]
      have c3 : w3.cell? ⟨p, 3, none⟩ = some (.string S.blank.1) := by rw [← hbl]; exact N3.out.cell 3
      have c4 : w3.cell? ⟨p, 4, none⟩ = some (.string S.blank.2) := by rw [← hbl]; exact N3.out.cell 4
      have hpj : (SK.blk k).pages.getD j pg0 = S.blank := by
        rw [hbk]
        exact getD_set_self _ _ _ _ (by rw [wipeP_length, HL.out]; exact hlt)
      have e0 := N3.out.leaf k hkk j hjk 0 (by decide)
      have e1 := N3.out.leaf k hkk j hjk 1 (by decide)
      rw [hpj] at e0 e1
      simp only [pgC, List.getElem?_cons_zero, List.getElem?_cons_succ, Nat.add_zero] at e0 e1
      have hne := neq_pg S.blank.1 S.blank.2
      have hgd := guard_pg
      clear hpj hbl hbk hSK N3
      go_quiet (fail)
      clear d0 c3 c4 e0 e1 hne hgd
      go_wp2_with fail
      go_roundw
      case rel => exact ⟨j + 1, by omega, by go_num, N2.out.drewN _, T2.out.drewN _⟩
      case measure => simp [intOf]; omega
    · obtain rfl : j = S.pgs := by omega
      go_wp2_with fail
      go_end0
      exact ⟨rfl, NJ.out, TJ.out⟩
end Go.Proofs.Ythippbckjldijaa
