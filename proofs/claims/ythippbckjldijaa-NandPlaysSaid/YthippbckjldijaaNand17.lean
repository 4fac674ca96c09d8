/-
  Layer 5, the program's calls: wipe of some pages; Erase where the power is cut.
-/
import Derived.Test.YthippbckjldijaaNand16
namespace Go.Proofs.Ythippbckjldijaa
set_option linter.unusedSimpArgs false
set_option linter.unusedVariables false
open Go.RowKit Go.WideShapes Go.ChangeShapes Go.ChangeAt Go.Deep

theorem odd_byte : ∀ n : Nat, n < 256 → (bits BinOp.and IntKind.u8 (n : Int) 1 == 1) = (n % 2 == 1) := by decide +kernel
/-- is this page erased in an Erase that is cut? -/
def goneB (t : ByteArray) (j : Nat) : Bool := t.size == 0 || (t.get! (j % t.size)).toNat % 2 == 1
set_option maxRecDepth 100000 in
set_option maxHeartbeats 400000 in
theorem gone_torn (t : ByteArray) (ht : t.size ≤ 1000000) (tb j : Nat) (hj : j ≤ 64) (w : World) (hb : w.heap[tb]? = some (.cells #[.string t] 9 (0, 0))) :
    Calls Try.prog 53 #[.int .i64 (j : Int), .pointer (some ⟨tb, 0, none⟩)] w fun e w' => e = .returned (.bool (goneB t j)) ∧ Below w.heap.size w w' := by
  have c0 : w.cell? ⟨tb, 0, none⟩ = some (.string t) := cell_of_block hb 0
  by_cases hz : t.size = 0
  · have HG := hide (show true = goneB t j by unfold goneB; rw [hz]; rfl)
    rw [size_zero t hz] at c0
    clear hb
    go_enter Try.func53, Try.ntmps53
    go_wp2_with fail
    go_quiet (fail)
    go_wp2_with fail
    go_ret
    exact ⟨ret_bb HG.out, below_drewN (Below.refl _ _) _⟩
  · have hne : t.toList.isEmpty = false := by
      rw [ByteArray.toList_eq]
      cases hq : t.data.toList with
      | nil =>
        have h1 : t.data.toList.length = 0 := by rw [hq]; rfl
        rw [size_list] at h1
        exact absurd h1 hz
      | cons a l => rfl
    have hm : j % t.size < t.size := Nat.mod_lt _ (by omega)
    have hr1 : 0 ≤ (j : Int) % (t.size : Int) := by omega
    have hr2 : (j : Int) % (t.size : Int) < (t.size : Int) := by omega
    have HG := hide (show (bits BinOp.and IntKind.u8 ((t[j % t.size]'hm).toNat : Int) 1 == 1) = goneB t j by
      unfold goneB
      rw [show (t.size == 0) = false from beq_eq_false_iff_ne.2 hz, Bool.false_or, odd_byte _ (by have := (t[j % t.size]'hm).toNat_lt; omega)]
      congr 3
      show _ = t.data[j % t.size]!
      rw [getElem!_pos t.data (j % t.size) hm]
      rfl)
    clear hb
    go_enter Try.func53, Try.ntmps53
    go_wp2_with fail
    go_quiet (fail)
    go_wp2_with fail
    go_ret
    exact ⟨ret_bb HG.out, below_drewN (Below.refl _ _) _⟩
/-- some of the first j pages are erased -/
def wipeG (x : Pg) (L : List Pg) (g : Nat → Bool) : Nat → List Pg
  | 0 => L
  | j + 1 => if g j = true then (wipeG x L g j).set j x else wipeG x L g j
/-- the page behind the last of the first j that isn't blank -/
def wipeN (x : Pg) (L : List Pg) (g : Nat → Bool) : Nat → Int
  | 0 => 0
  | j + 1 => if (wipeG x L g (j + 1)).getD j pg0 = x then wipeN x L g j else (j : Int) + 1
theorem wipeG_length (x : Pg) (L : List Pg) (g : Nat → Bool) : ∀ j, (wipeG x L g j).length = L.length
  | 0 => rfl
  | j + 1 => by
    rw [wipeG]
    split
    · rw [List.length_set, wipeG_length x L g j]
    · exact wipeG_length x L g j
theorem list_ne (a b : ByteArray) (h : ¬ a = b) : (a.toList == b.toList) = false := by
  rw [ByteArray.toList_eq, ByteArray.toList_eq, beq_eq_false_iff_ne]
  intro h2
  exact h (ByteArray.ext (Array.toList_inj.1 h2))
theorem neq_pg_not (a b a' b' : ByteArray) (h : ¬ ((a, b) : Pg) = (a', b')) (w : World) : (binOp .neq 70 (.agg #[.string a, .string b]) (.agg #[.string a', .string b'])).run Try.prog w = .ok (.bool true) w := by
  rw [run_neq_struct, eq_pg]
  by_cases h1 : a = a'
  · have h2 : ¬ b = b' := fun h2 => h (by rw [h1, h2])
    rw [list_ne b b' h2]
    simp
  · rw [list_ne a a' h1]
    simp
/-- the block under way -/
def wipeB (S : ChipM) (k : Nat) (g : Nat → Bool) (j : Nat) : BlkM := { S.blk k with pages := wipeG S.blank (S.blk k).pages g j, next := wipeN S.blank (S.blk k).pages g j }
set_option maxRecDepth 100000 in
set_option maxHeartbeats 1000000 in
theorem wipe_torn (p q B : Nat) (G : Nat → Nat) (S : ChipM) (k : Nat) (hk : k < S.L.length) (t : ByteArray) (ht : t.size ≤ 1000000) (tb : Nat) (w : World) (hx : w.heap[tb]? = some (.cells #[.string t] 9 (0, 0))) (h : NandAt w p q B G S) :
    Calls Try.prog 44 #[.pointer (some ⟨p, 0, none⟩), .pointer (some ⟨q, k * 6, none⟩), .func (.func 53) #[] #[.pointer (some ⟨tb, 0, none⟩)]] w (NandIs p q B G (S.put k (wipeB S k (goneB t) S.pgs)) (.tuple #[]) w) := by
  have hg64 := h.few.2
  have HGT := hide (fun (j : Nat) (hj : j ≤ 64) (W : World) (hW : W.heap[tb]? = some (.cells #[.string t] 9 (0, 0))) => gone_torn t ht tb j hj W hW)
  have d1 : w.cell? ⟨q, k * 6 + 1, none⟩ = some (.int .i64 (S.blk k).next) := h.slot k hk 1 (by decide)
  have f1 := h.row.free (k * 6 + 1)
  have hset := h.setBlk k hk 1 (by decide) (.int .i64 0) { S.blk k with next := 0 } rfl rfl
  have N1 := hide (show NandAt (w.setCell ⟨q, k * 6 + 1, none⟩ (.int .i64 0)) p q B G (S.put k (wipeB S k (goneB t) 0)) from hset)
  have T1 := hide (h.turnBlk (k * 6 + 1) (.int .i64 0))
  have X1 := hide ((block_setCell_other (rows_apart_head h.row hx (by decide)) (k * 6 + 1) (.int .i64 0)).trans hx)
  have d0 : (w.setCell ⟨q, k * 6 + 1, none⟩ (.int .i64 0)).cell? ⟨q, k * 6, none⟩ = some (.slice (some ⟨G k, 0, none⟩) S.pgs S.pgs) := by
    refine (show _ = _ from hset.slot k (by rw [put_length]; exact hk) 0 (by decide)).trans ?_
    rw [blk_put_self S k _ hk, ← h.len k hk]; rfl
  have d0' : w.cell? ⟨q, k * 6, none⟩ = some (.slice (some ⟨G k, 0, none⟩) S.pgs S.pgs) := by
    have := h.slot k hk 0 (by decide)
    rw [Nat.add_zero] at this
    rw [this, ← h.len k hk]; rfl
  have HL := hide (h.len k hk)
  clear h hset hx
  generalize goneB t = g at *
  go_enter Try.func44, Try.ntmps44
  go_wp2_with fail
  clear d0 d0' d1 f1
  generalize w.setCell ⟨q, k * 6 + 1, none⟩ (.int .i64 0) = w1 at *
  go_loopw [15] (fun i W => ∃ j : Nat, j ≤ S.pgs ∧ i = .int .i64 j ∧ NandAt W p q B G (S.put k (wipeB S k g j)) ∧ W.heap[tb]? = some (.cells #[.string t] 9 (0, 0)) ∧ Turn B w W) (fun i _ => S.pgs - (intOf i).toNat)
  case atStart => exact ⟨0, by omega, rfl, N1.out, X1.out, T1.out⟩
  case round =>
    obtain ⟨j, hj, rfl, hn, hx, ht⟩ := hrel
    have NJ := hide hn
    have XJ := hide hx
    have TJ := hide ht
    clear hn hx ht
    by_cases hlt : j < S.pgs
    · go_wp2_with fail
      refine (HGT.out j (by omega) _ XJ.out).mono ?_
      rintro e w2 ⟨rfl, hb⟩
      have N2 := hide (NJ.out.below hb)
      have X2 := hide ((hb.block _ (heap_lt XJ.out)).trans XJ.out)
      have T2 := hide (TJ.out.trans (Turn.of_below hb NJ.out.size))
      clear hb NJ XJ TJ
      obtain ⟨SJ, hSJ⟩ : ∃ SJ, SJ = S.put k (wipeB S k g j) := ⟨_, rfl⟩
      have hbj : SJ.blk k = wipeB S k g j := by rw [hSJ, blk_put_self S k _ hk]
      have hkj : k < SJ.L.length := by rw [hSJ, put_length]; exact hk
      have hjj : j < SJ.pgs := by rw [hSJ]; exact hlt
      have hbl : SJ.blank = S.blank := by rw [hSJ]; rfl
      rw [← hSJ] at N2
      cases hgj : g j with
      | true =>
        have hmb : SJ.put k { SJ.blk k with pages := (SJ.blk k).pages.set j S.blank } = S.put k { S.blk k with pages := wipeG S.blank (S.blk k).pages g (j + 1), next := wipeN S.blank (S.blk k).pages g j } := by
          rw [hbj, hSJ, put_put, show wipeG S.blank (S.blk k).pages g (j + 1) = (wipeG S.blank (S.blk k).pages g j).set j S.blank from if_pos hgj]
          rfl
        have d0 : w2.cell? ⟨q, k * 6, none⟩ = some (.slice (some ⟨G k, 0, none⟩) S.pgs S.pgs) := by
          refine (show _ = _ from N2.out.slot k hkj 0 (by decide)).trans ?_
          rw [hbj]
          show some (Value.slice _ (wipeG S.blank (S.blk k).pages g j).length (wipeG S.blank (S.blk k).pages g j).length) = _
          rw [wipeG_length, HL.out]
        have c3 : w2.cell? ⟨p, 3, none⟩ = some (.string S.blank.1) := by rw [← hbl]; exact N2.out.cell 3
        have c4 : w2.cell? ⟨p, 4, none⟩ = some (.string S.blank.2) := by rw [← hbl]; exact N2.out.cell 4
        have e0 := N2.out.leaf k hkj j hjj 0 (by decide)
        have e1 := N2.out.leaf k hkj j hjj 1 (by decide)
        simp only [pgC, List.getElem?_cons_zero, List.getElem?_cons_succ, Nat.add_zero] at e0 e1
        have g0 := (N2.out.page k hkj).free (j * 2)
        have g1 := (N2.out.page k hkj).free (j * 2 + 1)
        have hgt : G k ≠ tb := rows_apart_head (N2.out.page k hkj) X2.out (by decide)
        have N3 := hide ((N2.out.setPage2 k hkj j hjj S.blank).drew)
        rw [hmb] at N3
        have T3 := hide ((T2.out.trans (N2.out.turnPage2 k hkj j hjj S.blank.1 S.blank.2)).drew)
        have X3 := hide (show (((w2.setCell ⟨G k, j * 2, none⟩ (.string S.blank.1)).setCell ⟨G k, j * 2 + 1, none⟩ (.string S.blank.2)).drew).heap[tb]? = _ from (block_setCell_other hgt (j * 2 + 1) (.string S.blank.2)).trans ((block_setCell_other hgt (j * 2) (.string S.blank.1)).trans X2.out))
        clear hmb hbj hSJ hbl hgt
        go_wp2_with fail
        go_upto_region 5 with (fail)
        go_still_tail 10, (by kernel_rfl)
        change wpList _ _ _ _ _ w2.drew
        go_wp2_with fail
        clear d0 c3 c4 e0 e1 g0 g1 N2 T2 X2
        generalize ((w2.setCell ⟨G k, j * 2, none⟩ (.string S.blank.1)).setCell ⟨G k, j * 2 + 1, none⟩ (.string S.blank.2)).drew = w3 at *
        have hpj : (wipeG S.blank (S.blk k).pages g (j + 1)).getD j pg0 = S.blank := by
          show (if g j = true then (wipeG S.blank (S.blk k).pages g j).set j S.blank else _).getD j pg0 = _
          rw [if_pos hgj]
          exact getD_set_self _ _ _ _ (by rw [wipeG_length, HL.out]; exact hlt)
        obtain ⟨SK, hSK⟩ : ∃ SK, SK = S.put k { S.blk k with pages := wipeG S.blank (S.blk k).pages g (j + 1), next := wipeN S.blank (S.blk k).pages g j } := ⟨_, rfl⟩
        have hbk : SK.blk k = { S.blk k with pages := wipeG S.blank (S.blk k).pages g (j + 1), next := wipeN S.blank (S.blk k).pages g j } := by rw [hSK, blk_put_self S k _ hk]
        have hkk : k < SK.L.length := by rw [hSK, put_length]; exact hk
        have hjk : j < SK.pgs := by rw [hSK]; exact hlt
        have hbl : SK.blank = S.blank := by rw [hSK]; rfl
        rw [← hSK] at N3
        have d0 : w3.cell? ⟨q, k * 6, none⟩ = some (.slice (some ⟨G k, 0, none⟩) S.pgs S.pgs) := by
          refine (show _ = _ from N3.out.slot k hkk 0 (by decide)).trans ?_
          rw [hbk]
          show some (Value.slice _ (wipeG S.blank (S.blk k).pages g (j + 1)).length (wipeG S.blank (S.blk k).pages g (j + 1)).length) = _
          rw [wipeG_length, HL.out]
        have c3 : w3.cell? ⟨p, 3, none⟩ = some (.string S.blank.1) := by rw [← hbl]; exact N3.out.cell 3
        have c4 : w3.cell? ⟨p, 4, none⟩ = some (.string S.blank.2) := by rw [← hbl]; exact N3.out.cell 4
        have e0 := N3.out.leaf k hkk j hjk 0 (by decide)
        have e1 := N3.out.leaf k hkk j hjk 1 (by decide)
        rw [hbk] at e0 e1
        have hgd := guard_pg
        rw [hpj] at e0 e1
        simp only [pgC, List.getElem?_cons_zero, List.getElem?_cons_succ, Nat.add_zero] at e0 e1
        have hne := neq_pg S.blank.1 S.blank.2
        have hBE : wipeB S k g (j + 1) = { S.blk k with pages := wipeG S.blank (S.blk k).pages g (j + 1), next := wipeN S.blank (S.blk k).pages g j } := by
          unfold wipeB
          rw [show wipeN S.blank (S.blk k).pages g (j + 1) = wipeN S.blank (S.blk k).pages g j from if_pos hpj]
        rw [hSK, ← hBE] at N3
        clear hpj hbl hbk hSK hBE
        go_quiet (fail)
        clear d0 c3 c4 e0 e1 hne hgd
        go_wp2_with fail
        go_roundw
        case rel => exact ⟨j + 1, by omega, by go_num, N3.out.drewN _, X3.out, T3.out.drewN _⟩
        case measure => simp [intOf]; omega
      | false =>
        have hmb : SJ = S.put k { S.blk k with pages := wipeG S.blank (S.blk k).pages g (j + 1), next := wipeN S.blank (S.blk k).pages g j } := by
          rw [hSJ, show wipeG S.blank (S.blk k).pages g (j + 1) = wipeG S.blank (S.blk k).pages g j from if_neg (by rw [hgj]; decide)]
          rfl
        have N3 := hide (show NandAt w2 p q B G (S.put k { S.blk k with pages := wipeG S.blank (S.blk k).pages g (j + 1), next := wipeN S.blank (S.blk k).pages g j }) by rw [← hmb]; exact N2.out)
        have T3 := hide T2.out
        have X3 := hide X2.out
        clear hmb hbj hSJ hbl N2 T2 X2 hkj hjj
        generalize w2 = w3 at *
        by_cases hpj : (wipeG S.blank (S.blk k).pages g (j + 1)).getD j pg0 = S.blank
        · go_wp2_with fail
          have hdone := hlt
          obtain ⟨SK, hSK⟩ : ∃ SK, SK = S.put k { S.blk k with pages := wipeG S.blank (S.blk k).pages g (j + 1), next := wipeN S.blank (S.blk k).pages g j } := ⟨_, rfl⟩
          have hbk : SK.blk k = { S.blk k with pages := wipeG S.blank (S.blk k).pages g (j + 1), next := wipeN S.blank (S.blk k).pages g j } := by rw [hSK, blk_put_self S k _ hk]
          have hkk : k < SK.L.length := by rw [hSK, put_length]; exact hk
          have hjk : j < SK.pgs := by rw [hSK]; exact hlt
          have hbl : SK.blank = S.blank := by rw [hSK]; rfl
          rw [← hSK] at N3
          have d0 : w3.cell? ⟨q, k * 6, none⟩ = some (.slice (some ⟨G k, 0, none⟩) S.pgs S.pgs) := by
            refine (show _ = _ from N3.out.slot k hkk 0 (by decide)).trans ?_
            rw [hbk]
            show some (Value.slice _ (wipeG S.blank (S.blk k).pages g (j + 1)).length (wipeG S.blank (S.blk k).pages g (j + 1)).length) = _
            rw [wipeG_length, HL.out]
          have c3 : w3.cell? ⟨p, 3, none⟩ = some (.string S.blank.1) := by rw [← hbl]; exact N3.out.cell 3
          have c4 : w3.cell? ⟨p, 4, none⟩ = some (.string S.blank.2) := by rw [← hbl]; exact N3.out.cell 4
          have e0 := N3.out.leaf k hkk j hjk 0 (by decide)
          have e1 := N3.out.leaf k hkk j hjk 1 (by decide)
          rw [hbk] at e0 e1
          have hgd := guard_pg
          rw [hpj] at e0 e1
          simp only [pgC, List.getElem?_cons_zero, List.getElem?_cons_succ, Nat.add_zero] at e0 e1
          have hne := neq_pg S.blank.1 S.blank.2
          have hBE : wipeB S k g (j + 1) = { S.blk k with pages := wipeG S.blank (S.blk k).pages g (j + 1), next := wipeN S.blank (S.blk k).pages g j } := by
            unfold wipeB
            rw [show wipeN S.blank (S.blk k).pages g (j + 1) = wipeN S.blank (S.blk k).pages g j from if_pos hpj]
          rw [hSK, ← hBE] at N3
          clear hpj hbl hbk hSK hBE
          go_quiet (fail)
          clear d0 c3 c4 e0 e1 hne hgd
          go_wp2_with fail
          go_roundw
          case rel => exact ⟨j + 1, by omega, by go_num, N3.out.drewN _, X3.out, T3.out.drewN _⟩
          case measure => simp [intOf]; omega
        · have HNE := hide hpj
          obtain ⟨SK, hSK⟩ : ∃ SK, SK = S.put k { S.blk k with pages := wipeG S.blank (S.blk k).pages g (j + 1), next := wipeN S.blank (S.blk k).pages g j } := ⟨_, rfl⟩
          have hbk : SK.blk k = { S.blk k with pages := wipeG S.blank (S.blk k).pages g (j + 1), next := wipeN S.blank (S.blk k).pages g j } := by rw [hSK, blk_put_self S k _ hk]
          have hkk : k < SK.L.length := by rw [hSK, put_length]; exact hk
          have hjk : j < SK.pgs := by rw [hSK]; exact hlt
          have hbl : SK.blank = S.blank := by rw [hSK]; rfl
          rw [← hSK] at N3
          have d0 : w3.cell? ⟨q, k * 6, none⟩ = some (.slice (some ⟨G k, 0, none⟩) S.pgs S.pgs) := by
            refine (show _ = _ from N3.out.slot k hkk 0 (by decide)).trans ?_
            rw [hbk]
            show some (Value.slice _ (wipeG S.blank (S.blk k).pages g (j + 1)).length (wipeG S.blank (S.blk k).pages g (j + 1)).length) = _
            rw [wipeG_length, HL.out]
          have c3 : w3.cell? ⟨p, 3, none⟩ = some (.string S.blank.1) := by rw [← hbl]; exact N3.out.cell 3
          have c4 : w3.cell? ⟨p, 4, none⟩ = some (.string S.blank.2) := by rw [← hbl]; exact N3.out.cell 4
          have e0 := N3.out.leaf k hkk j hjk 0 (by decide)
          have e1 := N3.out.leaf k hkk j hjk 1 (by decide)
          rw [hbk] at e0 e1
          have hgd := guard_pg
          obtain ⟨y, hy⟩ : ∃ y, y = (wipeG S.blank (S.blk k).pages g (j + 1)).getD j pg0 := ⟨_, rfl⟩
          rw [← hy] at e0 e1
          simp only [pgC, List.getElem?_cons_zero, List.getElem?_cons_succ, Nat.add_zero] at e0 e1
          have hne := neq_pg_not y.1 y.2 S.blank.1 S.blank.2 (by rw [hy]; exact HNE.out)
          have d1 : w3.cell? ⟨q, k * 6 + 1, none⟩ = some (.int .i64 (wipeN S.blank (S.blk k).pages g j)) := by
            refine (show _ = _ from N3.out.slot k hkk 1 (by decide)).trans ?_
            rw [hbk]; rfl
          have f1 := N3.out.row.free (k * 6 + 1)
          have hBE : wipeB S k g (j + 1) = { S.blk k with pages := wipeG S.blank (S.blk k).pages g (j + 1), next := (j : Int) + 1 } := by
            unfold wipeB
            rw [show wipeN S.blank (S.blk k).pages g (j + 1) = (j : Int) + 1 from if_neg HNE.out]
          have hwr : IntKind.i64.wrap ((j : Int) + 1) = (j : Int) + 1 := by rw [IntKind.wrap_i64]; omega
          clear hpj hy HNE
          go_wp2_with fail
          go_quiet (fail)
          clear d0 c3 c4 e0 e1 hne hgd
          have NQ := hide (N3.out.drewN nq)
          have XQ := hide (show (w3.drewN nq).heap[tb]? = _ from X3.out)
          have hset := NQ.out.setBlk k hkk 1 (by decide) (.int .i64 ((j : Int) + 1)) (wipeB S k g (j + 1)) (by rw [hBE, hbk]) (by rw [hBE, hbk]; rfl)
          rw [hSK, put_put] at hset
          have HS3 := hide hset
          have HT3 := hide ((T3.out.drewN nq).trans (NQ.out.turnBlk (k * 6 + 1) (.int .i64 ((j : Int) + 1))))
          have HX3 := hide ((block_setCell_other (rows_apart_head NQ.out.row XQ.out (by decide)) (k * 6 + 1) (.int .i64 ((j : Int) + 1))).trans XQ.out)
          clear hset hBE hbl hbk hSK N3 T3 X3 NQ XQ
          go_wp2_with fail
          go_roundw
          case rel => exact ⟨j + 1, by omega, by go_num, HS3.out, HX3.out, HT3.out⟩
          case measure => simp [intOf]; omega
    · obtain rfl : j = S.pgs := by omega
      go_wp2_with fail
      go_end0
      exact ⟨rfl, NJ.out, TJ.out⟩
end Go.Proofs.Ythippbckjldijaa
