/-
  Lemmas and contracts of this project's own, put together: Nand3, Nand4.
-/
import Derived.StillTailTactics
import Derived.Test.YtjfmkfhjbdiojaaGreatPk7
namespace Go.Proofs.YtjfmkfhjbdiojaaGreat
set_option linter.unusedSimpArgs false
set_option linter.unusedVariables false
open Go.RowKit Go.WideShapes Go.ChangeShapes Go.ChangeAt Go.Deep

/-- an error of the block's own -/
def sinE (b : BlkM) (o : Bool) : Int := if b.failed = true ∨ b.mill = true then 12 else if o = true then 11 else 0
def sinS (S : ChipM) (k : Nat) (o : Bool) : ChipM := if sinE (S.blk k) o = 0 then S else { S with sins := S.sins + 1 }
set_option maxRecDepth 100000 in
set_option maxHeartbeats 400000 in
theorem sin_any (p q B : Nat) (G : Nat → Nat) (S : ChipM) (k : Nat) (hk : k < S.L.length) (o : Bool) (hs0 : 0 ≤ S.sins) (hs1 : S.sins ≤ 1000000000) (w : World) (h : NandAt w p q B G S) :
    Calls Tryz.prog 120 #[.pointer (some ⟨p, 0, none⟩), .pointer (some ⟨q, k * 6, none⟩), .bool o] w (NandIs p q B G (sinS S k o) (.int .i64 (sinE (S.blk k) o)) w) := by
  have c8 : w.cell? ⟨p, 8, none⟩ = some (.int .i64 S.sins) := h.cell 8
  have f8 := h.free 8
  have d3 : w.cell? ⟨q, k * 6 + 3, none⟩ = some (.bool (S.blk k).mill) := h.slot k hk 3 (by decide)
  have d5 : w.cell? ⟨q, k * 6 + 5, none⟩ = some (.bool (S.blk k).failed) := h.slot k hk 5 (by decide)
  have HW := hide h
  have hw : IntKind.i64.wrap (S.sins + 1) = S.sins + 1 := by rw [IntKind.wrap_i64]; omega
  have HS := hide (h.drew.setHead 8 (.int .i64 (S.sins + 1)) { S with sins := S.sins + 1 } rfl rfl rfl)
  have HT := hide ((Turn.refl B w).drew.trans (h.drew.turnHead 8 (.int .i64 (S.sins + 1))))
  obtain ⟨E, hE⟩ : ∃ E, sinE (S.blk k) o = E := ⟨_, rfl⟩
  have HS2 := hide (show sinS S k o = if E = 0 then S else { S with sins := S.sins + 1 } by unfold sinS; rw [hE])
  rw [hE, HS2.out]
  unfold sinE at hE
  generalize (S.blk k).mill = mi at *
  generalize (S.blk k).failed = fa at *
  clear h HS2
  have hyes : ∀ E : Int, E ≠ 0 → NandIs p q B G { S with sins := S.sins + 1 } (.int .i64 E) w (.returned (.int .i64 E)) (w.drew.setCell ⟨p, 8, none⟩ (.int .i64 (S.sins + 1))) := fun E hE => ⟨rfl, HS.out, HT.out⟩
  have HY := hide hyes
  clear hyes HS HT
  cases fa with
  | true =>
    obtain rfl : (12 : Int) = E := by rw [← hE]; simp
    clear hE
    rw [if_neg (by decide)]
    go_enter Tryz.func120, Tryz.ntmps120
    go_upto_region 7 with (fail)
    go_still_tail 9, (by kernel_rfl)
    change wpList _ _ _ _ _ w.drew
    go_wp2_with fail
    go_ret
    exact HY.out 12 (by decide)
  | false =>
    cases mi with
    | true =>
      obtain rfl : (12 : Int) = E := by rw [← hE]; simp
      clear hE
      rw [if_neg (by decide)]
      go_enter Tryz.func120, Tryz.ntmps120
      go_upto_region 7 with (fail)
      go_still_tail 9, (by kernel_rfl)
      change wpList _ _ _ _ _ w.drew
      go_wp2_with fail
      go_ret
      exact HY.out 12 (by decide)
    | false =>
      cases o with
      | true =>
        obtain rfl : (11 : Int) = E := by rw [← hE]; simp
        clear hE
        rw [if_neg (by decide)]
        go_enter Tryz.func120, Tryz.ntmps120
        go_upto_region 7 with (fail)
        go_still_tail 9, (by kernel_rfl)
        change wpList _ _ _ _ _ w.drew
        go_wp2_with fail
        go_ret
        exact HY.out 11 (by decide)
      | false =>
        obtain rfl : (0 : Int) = E := by rw [← hE]; simp
        clear hE
        rw [if_pos rfl]
        go_enter Tryz.func120, Tryz.ntmps120
        go_wp2_with fail
        go_ret
        exact ⟨rfl, HW.out, Turn.refl _ _⟩

def cutS (S : ChipM) : ChipM := if S.fuse = 0 then S else { S with fuse := S.fuse - 1, off := decide (S.fuse = 1) }
def progsS (S : ChipM) : ChipM := { S with progs := S.progs + 1 }
def erasS (S : ChipM) : ChipM := { S with eras := S.eras + 1 }
set_option maxRecDepth 100000 in
set_option maxHeartbeats 400000 in
theorem cut_progs (p q B : Nat) (G : Nat → Nat) (S : ChipM) (hp0 : 0 ≤ S.progs) (hp1 : S.progs ≤ 1000000000) (hf0 : 0 ≤ S.fuse) (hf1 : S.fuse ≤ 9223372036854775807) (w : World) (h : NandAt w p q B G S) :
    Calls Tryz.prog 121 #[.pointer (some ⟨p, 0, none⟩), .int .i64 0] w (NandIs p q B G (cutS (progsS S)) (.bool (decide (S.fuse = 1))) w) := by
  have c6 : w.cell? ⟨p, 6, none⟩ = some (.int .i64 S.progs) := h.cell 6
  have f6 := h.free 6
  have f9 := h.free 9
  have f11 := h.free 11
  have c9 : w.cell? ⟨p, 9, none⟩ = some (.int .i64 S.fuse) := h.cell 9
  have c11 : w.cell? ⟨p, 11, none⟩ = some (.bool S.off) := h.cell 11
  have hw : IntKind.i64.wrap (S.progs + 1) = S.progs + 1 := by rw [IntKind.wrap_i64]; omega
  have hs1 := h.drew.setHead 6 (.int .i64 (S.progs + 1)) (progsS S) rfl rfl rfl
  have ht1 := (Turn.refl B w).drew.trans (h.drew.turnHead 6 (.int .i64 (S.progs + 1)))
  by_cases hz : S.fuse = 0
  · have HS := hide hs1
    have HT := hide ht1
    have hc : cutS (progsS S) = progsS S := by unfold cutS; rw [if_pos (show (progsS S).fuse = 0 from hz)]
    rw [hc, decide_eq_false (show ¬ S.fuse = 1 by omega)]
    rw [hz] at c9
    clear h hs1 ht1 hc hz hf0 hf1
    go_enter Tryz.func121, Tryz.ntmps121
    go_upto_region 1 with (fail)
    go_still_tail 10, (by kernel_rfl)
    change wpList _ _ _ _ _ w.drew
    go_wp2_with fail
    go_ret
    exact ⟨rfl, HS.out, HT.out⟩
  · obtain ⟨f, hf⟩ : ∃ f, S.fuse - 1 = f := ⟨_, rfl⟩
    have hs2 := hs1.setHead 9 (.int .i64 f) { progsS S with fuse := f } rfl rfl rfl
    have ht2 := ht1.trans (hs1.turnHead 9 (.int .i64 f))
    have HS := hide (hs2.setHead 11 (.bool (decide (f = 0))) { progsS S with fuse := f, off := decide (f = 0) } rfl rfl rfl)
    have HT := hide (ht2.trans (hs2.turnHead 11 (.bool (decide (f = 0)))))
    have hc : cutS (progsS S) = { progsS S with fuse := f, off := decide (f = 0) } := by
      unfold cutS
      rw [if_neg (show ¬ (progsS S).fuse = 0 from hz)]
      show _ = _
      have e1 : (progsS S).fuse = f + 1 := by show S.fuse = f + 1; omega
      rw [e1]
      congr 1
      · omega
      · congr 1; apply propext; omega
    rw [hc, show decide (S.fuse = 1) = decide (f = 0) by congr 1; apply propext; omega]
    have hwf : IntKind.i64.wrap (S.fuse - 1) = f := by rw [IntKind.wrap_i64]; omega
    clear h hs1 ht1 hs2 ht2 hc hf hf0 hf1
    by_cases hf : f = 0
    · subst hf
      rw [decide_eq_true (show (0 : Int) = 0 from rfl)] at *
      go_enter Tryz.func121, Tryz.ntmps121
      go_upto_region 1 with (fail)
      go_still_tail 10, (by kernel_rfl)
      change wpList _ _ _ _ _ w.drew
      go_wp2_with fail
      go_ret
      exact ⟨rfl, HS.out, HT.out⟩
    · rw [decide_eq_false hf] at *
      have hb : (f == 0) = false := by simpa using hf
      go_enter Tryz.func121, Tryz.ntmps121
      go_upto_region 1 with (fail)
      go_still_tail 10, (by kernel_rfl)
      change wpList _ _ _ _ _ w.drew
      go_wp2_with fail
      go_ret
      exact ⟨rfl, HS.out, HT.out⟩
set_option maxRecDepth 100000 in
set_option maxHeartbeats 400000 in
theorem cut_eras (p q B : Nat) (G : Nat → Nat) (S : ChipM) (hp0 : 0 ≤ S.eras) (hp1 : S.eras ≤ 1000000000) (hf0 : 0 ≤ S.fuse) (hf1 : S.fuse ≤ 9223372036854775807) (w : World) (h : NandAt w p q B G S) :
    Calls Tryz.prog 121 #[.pointer (some ⟨p, 0, none⟩), .int .i64 1] w (NandIs p q B G (cutS (erasS S)) (.bool (decide (S.fuse = 1))) w) := by
  have c6 : w.cell? ⟨p, 7, none⟩ = some (.int .i64 S.eras) := h.cell 7
  have f6 := h.free 7
  have f9 := h.free 9
  have f11 := h.free 11
  have c9 : w.cell? ⟨p, 9, none⟩ = some (.int .i64 S.fuse) := h.cell 9
  have c11 : w.cell? ⟨p, 11, none⟩ = some (.bool S.off) := h.cell 11
  have hw : IntKind.i64.wrap (S.eras + 1) = S.eras + 1 := by rw [IntKind.wrap_i64]; omega
  have hs1 := h.drew.setHead 7 (.int .i64 (S.eras + 1)) (erasS S) rfl rfl rfl
  have ht1 := (Turn.refl B w).drew.trans (h.drew.turnHead 7 (.int .i64 (S.eras + 1)))
  by_cases hz : S.fuse = 0
  · have HS := hide hs1
    have HT := hide ht1
    have hc : cutS (erasS S) = erasS S := by unfold cutS; rw [if_pos (show (erasS S).fuse = 0 from hz)]
    rw [hc, decide_eq_false (show ¬ S.fuse = 1 by omega)]
    rw [hz] at c9
    clear h hs1 ht1 hc hz hf0 hf1
    go_enter Tryz.func121, Tryz.ntmps121
    go_upto_region 1 with (fail)
    go_still_tail 10, (by kernel_rfl)
    change wpList _ _ _ _ _ w.drew
    go_wp2_with fail
    go_ret
    exact ⟨rfl, HS.out, HT.out⟩
  · obtain ⟨f, hf⟩ : ∃ f, S.fuse - 1 = f := ⟨_, rfl⟩
    have hs2 := hs1.setHead 9 (.int .i64 f) { erasS S with fuse := f } rfl rfl rfl
    have ht2 := ht1.trans (hs1.turnHead 9 (.int .i64 f))
    have HS := hide (hs2.setHead 11 (.bool (decide (f = 0))) { erasS S with fuse := f, off := decide (f = 0) } rfl rfl rfl)
    have HT := hide (ht2.trans (hs2.turnHead 11 (.bool (decide (f = 0)))))
    have hc : cutS (erasS S) = { erasS S with fuse := f, off := decide (f = 0) } := by
      unfold cutS
      rw [if_neg (show ¬ (erasS S).fuse = 0 from hz)]
      show _ = _
      have e1 : (erasS S).fuse = f + 1 := by show S.fuse = f + 1; omega
      rw [e1]
      congr 1
      · omega
      · congr 1; apply propext; omega
    rw [hc, show decide (S.fuse = 1) = decide (f = 0) by congr 1; apply propext; omega]
    have hwf : IntKind.i64.wrap (S.fuse - 1) = f := by rw [IntKind.wrap_i64]; omega
    clear h hs1 ht1 hs2 ht2 hc hf hf0 hf1
    by_cases hf : f = 0
    · subst hf
      rw [decide_eq_true (show (0 : Int) = 0 from rfl)] at *
      go_enter Tryz.func121, Tryz.ntmps121
      go_upto_region 1 with (fail)
      go_still_tail 10, (by kernel_rfl)
      change wpList _ _ _ _ _ w.drew
      go_wp2_with fail
      go_ret
      exact ⟨rfl, HS.out, HT.out⟩
    · rw [decide_eq_false hf] at *
      have hb : (f == 0) = false := by simpa using hf
      go_enter Tryz.func121, Tryz.ntmps121
      go_upto_region 1 with (fail)
      go_still_tail 10, (by kernel_rfl)
      change wpList _ _ _ _ _ w.drew
      go_wp2_with fail
      go_ret
      exact ⟨rfl, HS.out, HT.out⟩
end Go.Proofs.YtjfmkfhjbdiojaaGreat

namespace Go.Proofs.YtjfmkfhjbdiojaaGreat
set_option linter.unusedSimpArgs false
set_option linter.unusedVariables false
open Go.RowKit Go.WideShapes Go.ChangeShapes Go.ChangeAt Go.Deep

/-- a text again and again -/
def againB (n : Nat) (t : ByteArray) : ByteArray := ⟨(Lib.repeatL t.data.toList ((n + 32) / t.size + 1)).toArray⟩
def filledP (n : Nat) (t : ByteArray) : Pg := ((againB n t).extract 0 n, (againB n t).extract n (n + 32))
theorem againB_size (n : Nat) (t : ByteArray) (h : 1 ≤ t.size) : n + 32 ≤ (againB n t).size ∧ (againB n t).size ≤ n + 32 + t.size := by
  have h1 : (againB n t).size = ((n + 32) / t.size + 1) * t.size := by
    show (Lib.repeatL t.data.toList ((n + 32) / t.size + 1)).toArray.size = _
    rw [List.size_toArray, Lib.repeatL_length]
    rfl
  rw [h1, Nat.add_mul, Nat.one_mul]
  have h2 := Nat.div_add_mod (n + 32) t.size
  have h3 := Nat.mod_lt (n + 32) h
  rw [Nat.mul_comm] at h2
  omega
set_option maxRecDepth 100000 in
set_option maxHeartbeats 400000 in
theorem filled_any (nb pg : Int) (n : Nat) (hn : n ≤ 1024) (t : ByteArray) (ht1 : 1 ≤ t.size) (ht2 : t.size ≤ 1000000) (w : World) :
    Calls Tryz.prog 41 #[.agg #[.int .i64 nb, .int .i64 pg, .int .i64 (n : Int)], .string t] w fun e w' => e = .returned (.agg #[.string (filledP n t).1, .string (filledP n t).2]) ∧ Below w.heap.size w w' := by
  obtain ⟨c, hc⟩ : ∃ c, (n + 32) / t.size = c := ⟨_, rfl⟩
  have hsz := againB_size n t ht1
  have hdl := Nat.div_le_self (n + 32) t.size
  have HR := hide (fun (W : World) => Tryz.strings_Repeat t (c + 1) W (by omega) (by
    have h1 : (againB n t).size = (c + 1) * t.size := by
      show (Lib.repeatL t.data.toList ((n + 32) / t.size + 1)).toArray.size = _
      rw [List.size_toArray, Lib.repeatL_length, hc]
      rfl
    rw [Nat.mul_comm, ← h1]
    omega))
  have HA := hide (show (⟨(Lib.repeatL t.data.toList (c + 1)).toArray⟩ : ByteArray) = againB n t by unfold againB; rw [hc])
  rw [HA.out] at HR
  have HP := hide (show filledP n t = ((againB n t).extract 0 n, (againB n t).extract n (n + 32)) from rfl)
  rw [HP.out]
  generalize againB n t = all at *
  have hq2 : ((n : Int) + 32) / (t.size : Int) = (c : Int) := by rw [← hc]; simp
  have htd : ((n : Int) + 32).tdiv (t.size : Int) = (c : Int) := by rw [Int.tdiv_eq_ediv_of_nonneg (by omega)]; exact hq2
  have hcb : c ≤ 1056 := by omega
  rw [show ((c + 1 : Nat) : Int) = (c : Int) + 1 by omega] at HR
  have hne : ¬ (t.size : Int) = 0 := by omega
  have hn1 : (n : Int) ≤ (all.size : Int) := by omega
  have hn2 : (n : Int) + 32 ≤ (all.size : Int) := by omega
  have hn3 : (n : Int) ≤ (n : Int) + 32 := by omega
  clear hc HA HP hsz hdl hq2
  go_enter Tryz.func41, Tryz.ntmps41
  go_wp2_with fail
  obtain ⟨o1, ho1⟩ : ∃ o1, o1 = Obj.cells #[.int .i64 nb, .int .i64 pg, .int .i64 (n : Int)] 64 := ⟨_, rfl⟩
  obtain ⟨o2, ho2⟩ : ∃ o2, o2 = Obj.cells #[.string ⟨#[]⟩, .string ⟨#[]⟩] 107 := ⟨_, rfl⟩
  rw [← ho1, ← ho2]
  have hz1 : (w.alloc o1).heap.size = w.heap.size + 1 := by simp
  have hz2 : ((w.alloc o1).alloc o2).heap.size = w.heap.size + 2 := by simp
  have hx : ((w.alloc o1).alloc o2).heap[w.heap.size]? = some o1 := (heap_old (w.alloc o1) o2 _ (by omega)).trans (heap_new w o1)
  have hy : ((w.alloc o1).alloc o2).heap[w.heap.size + 1]? = some o2 := by
    have := heap_new (w.alloc o1) o2
    rw [hz1] at this
    exact this
  have hbl : Below w.heap.size w ((w.alloc o1).alloc o2) := ((Below.refl w.heap.size w).alloc (Nat.le_refl _) o1).alloc (by omega) o2
  generalize (w.alloc o1).alloc o2 = w2 at *
  refine (HR.out _).mono ?_
  rintro e w1 ⟨rfl, hb⟩
  have XB := hide ((hb.block w.heap.size (by omega)).trans hx)
  have YB := hide ((hb.block (w.heap.size + 1) (by omega)).trans hy)
  have BB := hide (hbl.trans (hb.mono (by omega)))
  clear hb hbl hx hy hz1 hz2
  rw [ho1] at XB
  rw [ho2] at YB
  clear ho1 ho2
  have x2 := cell_of_block XB.out 2
  have y0 := cell_of_block YB.out 0
  have y1 := cell_of_block YB.out 1
  have g0 := frozen_of_block YB.out 0
  have g1 := frozen_of_block YB.out 1
  go_upto_region 3 with (fail)
  go_still_tail 10, (by kernel_rfl)
  change wpList _ _ _ _ _ w1.drew
  go_wp2_with fail
  have hw : w.heap.size + 1 < w1.heap.size := heap_lt YB.out
  refine bodyPost_ret (v := .agg #[.string (all.extract 0 n), .string (all.extract n (n + 32))]) ?_ rfl ⟨rfl, ((BB.out.setCell (by simp) _).setCell (by simp) _).drew⟩
  have z0 : (((w1.setCell ⟨w.heap.size + 1, 0, none⟩ (.string (all.extract 0 n))).setCell ⟨w.heap.size + 1, 1, none⟩ (.string (all.extract n (n + 32)))).drew).heap[w.heap.size + 1]? = some (.cells #[.string (all.extract 0 n), .string (all.extract n (n + 32))] 107 (0, 0)) := block_setCell (block_setCell YB.out _ _) _ _
  have z1 := cell_of_block z0 0
  have z2 := cell_of_block z0 1
  simp [results, Tryz.results41, go_sem, z1, z2]
end Go.Proofs.YtjfmkfhjbdiojaaGreat
