/-
  Layer 22: lines that are even, made of any; same.
-/
import Derived.Test.YtjjldphbflbbdaaPost8
import Derived.Deep.DeepCutAuto
--import Derived.Test.Zdbg
namespace Go.Proofs.Ytjjldphbflbbdaa
set_option linter.unusedSimpArgs false
set_option linter.unusedVariables false
open Go.RowKit Go.WideShapes Go.ChangeShapes Go.ChangeAt Go.Deep

theorem nat_or_one (n : Nat) : n ||| 1 = 2 * (n / 2) + 1 := by
  apply Nat.eq_of_testBit_eq
  intro i
  cases i with
  | zero => simp [Nat.testBit_zero]
  | succ i =>
    rw [Nat.testBit_or, Nat.testBit_succ, Nat.testBit_succ, Nat.testBit_succ, show (2 * (n / 2) + 1) / 2 = n / 2 by omega]
    simp
def orOne (x : Int) : Int := if x % 2 = 0 then x + 1 else x
theorem or_one (x : Int) (h : inR x) : IntKind.i64.wrap ((BitVec.ofInt 64 x ||| BitVec.ofInt 64 1).toNat : Int) = orOne x := by
  obtain ⟨h1, h2⟩ := h
  rw [BitVec.toNat_or, show (BitVec.ofInt 64 1).toNat = 1 from rfl, nat_or_one, IntKind.wrap_i64]
  rw [BitVec.toNat_ofInt]
  unfold orOne
  split <;> omega
def evM (L : List LnM) : List LnM := (L.take 7).map fun x => ⟨1 + (max 0 x.c) % 5, orOne (x.n.tmod 1000000)⟩
def evenL (L : List LnM) : List LnM := if sumL (evM L) ≠ 0 ∨ (evM L).length < 2 then evM L ++ [⟨5, -sumL (evM L)⟩] else evM L
theorem evM_len (L : List LnM) : (evM L).length = min 7 L.length := by simp [evM]
def evX (x : LnM) : LnM := ⟨1 + (max 0 x.c) % 5, orOne (x.n.tmod 1000000)⟩
theorem tmod_bd (x : Int) : -999999 ≤ x.tmod 1000000 ∧ x.tmod 1000000 ≤ 999999 := by
  rcases Int.le_total 0 x with h | h
  · rw [Int.tmod_eq_emod_of_nonneg h]; omega
  · have e : x.tmod 1000000 = -((-x).tmod 1000000) := by rw [Int.neg_tmod, Int.neg_neg]
    rw [e, Int.tmod_eq_emod_of_nonneg (by omega)]; omega
theorem evX_bd (x : LnM) : 1 ≤ (evX x).c ∧ (evX x).c ≤ 5 ∧ -1000000 ≤ (evX x).n ∧ (evX x).n ≤ 1000000 ∧ (evX x).n ≠ 0 := by
  have h := tmod_bd x.n
  unfold evX orOne
  dsimp only
  generalize x.n.tmod 1000000 = t at *
  refine ⟨by omega, by omega, ?_, ?_, ?_⟩ <;> split <;> omega
theorem evM_mem (L : List LnM) (y : LnM) (h : y ∈ evM L) : ∃ x, y = evX x := by
  unfold evM at h
  obtain ⟨x, -, rfl⟩ := List.mem_map.1 h
  exact ⟨x, rfl⟩
theorem lnsum_bd (B : Int) (hB : 0 ≤ B) : ∀ xs : List Int, (∀ x ∈ xs, -B ≤ x ∧ x ≤ B) → -((xs.length : Int) * B) ≤ xs.sum ∧ xs.sum ≤ (xs.length : Int) * B
  | [], _ => by simp
  | x :: xs, h => by
    have h1 := lnsum_bd B hB xs (fun y hy => h y (List.mem_cons_of_mem _ hy))
    have h2 := h x (List.mem_cons_self ..)
    rw [List.sum_cons, List.length_cons, Int.natCast_add, Int.add_mul]
    omega
theorem sumL_bd (L : List LnM) (h : ∀ x ∈ L, -1000000 ≤ x.n ∧ x.n ≤ 1000000) (hl : L.length ≤ 7) : -7000000 ≤ sumL L ∧ sumL L ≤ 7000000 := by
  have h1 := lnsum_bd 1000000 (by decide) (L.map LnM.n) (fun y hy => by
    obtain ⟨x, hx, rfl⟩ := List.mem_map.1 hy
    exact h x hx)
  rw [List.length_map] at h1
  unfold sumL
  omega
theorem sumL_snoc (L : List LnM) (x : LnM) : sumL (L ++ [x]) = sumL L + x.n := by simp [sumL]
def EvenIs (L : List LnM) (w : World) (e : Ending) (w' : World) : Prop := ∃ a c, e = .returned (.slice a (evenL L).length c) ∧ (evenL L).length ≤ c ∧ LnIn w' a (evenL L) ∧ Below w.heap.size w w'
set_option maxRecDepth 100000 in
set_option maxHeartbeats 1000000 in
theorem even_any (L : List LnM) (a : Option Addr) (cap : Nat) (hcap : L.length ≤ cap) (h63 : L.length ≤ 9223372036854775807) (hok : ∀ x ∈ L, LnOk x) (w : World) (hin : LnIn w a L) :
    Calls Try.prog 8 #[.slice a L.length cap] w (EvenIs L w) := by
  obtain ⟨i0, hi, hz0, hz1, hz2⟩ := info_parts (show (Try.prog.info? 69).map (fun i => (i.zero, i.size, i.bytes)) = some (some (.agg #[.int .i64 0, .int .i64 0]), 2, 16) by kernel_rfl)
  have HI := hide hi
  have HZ0 := hide hz0
  have HZ1 := hide hz1
  have HZ2 := hide hz2
  have HIN := hide hin
  have HOK := hide hok
  obtain ⟨n, hn⟩ : ∃ n : Nat, min L.length 7 = n := ⟨_, rfl⟩
  have hmF : (if (7 : Int) < (L.length : Int) then (7 : Int) else (L.length : Int)) = (n : Int) := by split <;> omega
  have hmI : min (L.length : Int) 7 = (n : Int) := by omega
  have hn7 : n ≤ 7 := by omega
  have hnl : n ≤ L.length := by omega
  have hcI : (n : Int) ≤ (cap : Int) := by omega
  have HEM := hide (show evM L = (L.take n).map evX by
    unfold evM
    rw [show L.take 7 = L.take n by
      rw [← hn]
      by_cases h : L.length ≤ 7
      · rw [List.take_of_length_le h, Nat.min_eq_left h, List.take_length]
      · rw [Nat.min_eq_right (by omega)]]
    rfl)
  clear hi hz0 hz1 hz2 hin hok hn
  go_enter Try.func8, Try.ntmps8
  go_wp2_with fail
  go_loopw [3, 4, 14] (fun s t i W => ∃ (k : Nat) (a3 : Option Addr) (c3 : Nat), k ≤ n ∧ i = .int .i64 k ∧ s = .slice a3 k c3 ∧ t = .int .i64 (sumL ((L.take k).map evX)) ∧ W.ownsRow w.heap.size 69 2 (.slice a3 k c3) k (((L.take k).map evX).flatMap lnC) ∧ Below w.heap.size w W) (fun s t i _ => n - (intOf i).toNat)
  case atStart => exact ⟨0, none, 0, by omega, rfl, rfl, rfl, World.ownsRow_nil _ _ _ _, Below.refl _ _⟩
  case round =>
    obtain ⟨k, a3, c3, hk, rfl, rfl, rfl, ho, hb⟩ := hrel
    have OK := hide ho
    have BK := hide hb
    clear ho hb
    have hsb := sumL_bd ((L.take k).map evX) (fun y hy => by
      obtain ⟨x, -, rfl⟩ := List.mem_map.1 hy
      have := evX_bd x
      omega) (by rw [List.length_map, List.length_take]; omega)
    by_cases hlt : k < n
    · obtain ⟨b, off, rfl, hbl, c0, c1⟩ := (HIN.out.below BK.out) k (by omega)
      have HTN := hide (show (L.take (k + 1)).map evX = (L.take k).map evX ++ [evX (L.getD k ln0)] by rw [ln_next L k (by omega)]; simp)
      have hbx := evX_bd (L.getD k ln0)
      have HXO := hide (HOK.out _ (ln_mem L k (by omega)))
      generalize L.getD k ln0 = x at *
      generalize (L.take k).map evX = M at *
      have HSN := hide (show sumL (M ++ [evX x]) = sumL M + (evX x).n from sumL_snoc M (evX x))
      obtain ⟨xc, xn⟩ := x
      obtain ⟨ym, hym⟩ : ∃ ym : Nat, (ym : Int) = (max 0 xc) % 5 := ⟨((max 0 xc) % 5).toNat, by omega⟩
      have hyF : (if xc > 0 then xc else 0) % 5 = (ym : Int) := by rw [hym]; split <;> omega
      have hyI : (max 0 xc) % 5 = (ym : Int) := hym.symm
      obtain ⟨t, ht⟩ : ∃ t, t = xn.tmod 1000000 := ⟨_, rfl⟩
      have htb := tmod_bd xn
      rw [← ht] at htb
      have htt : xn.tmod 1000000 = t := ht.symm
      have hor : bits BinOp.or IntKind.i64 t 1 = orOne t := or_one t (by unfold inR; omega)
      have HEX := hide (show evX ⟨xc, xn⟩ = ⟨1 + (ym : Int), orOne t⟩ by unfold evX; dsimp only; rw [← hym, ← ht])
      rw [HEX.out] at hbx HTN HSN
      dsimp only at *
      generalize orOne t = y at *
      generalize sumL M = sm at *
      clear hym ht
      have hwi : IntKind.i64.wrap (sm + y) = sm + y := by rw [IntKind.wrap_i64]; omega
      have hwj : wrap64 (sm + y) = sm + y := by unfold wrap64; omega
      go_upto_region 6 with (fail)
      have hal := (Below.refl wr.heap.size wr).alloc (Nat.le_refl _) (.cells #[.int .i64 xc, .int .i64 xn] 69)
      have X1 := hide (heap_new wr (.cells #[.int .i64 xc, .int .i64 xn] 69))
      have O1 := hide (owns_below OK.out hal)
      have B1 := hide (BK.out.alloc BK.out.size (.cells #[.int .i64 xc, .int .i64 xn] 69))
      clear hal OK BK hbl c0 c1
      generalize wr.alloc (.cells #[.int .i64 xc, .int .i64 xn] 69) = w1 at *
      generalize wr.heap.size = q at *
      have d0 := cell_of_block X1.out 0
      have d1 := cell_of_block X1.out 1
      have hal := (Below.refl w1.heap.size w1).alloc (Nat.le_refl _) (.cells #[.int .i64 (1 + (ym : Int)), .int .i64 y] 69)
      have XB := hide (heap_new w1 (.cells #[.int .i64 (1 + (ym : Int)), .int .i64 y] 69))
      have O2 := hide (owns_below O1.out hal)
      have B2 := hide (B1.out.alloc B1.out.size (.cells #[.int .i64 (1 + (ym : Int)), .int .i64 y] 69))
      have hws2 : w.heap.size ≤ (w1.alloc (.cells #[.int .i64 (1 + (ym : Int)), .int .i64 y] 69)).heap.size := B2.out.size
      clear hal O1 B1 X1
      go_wp2_with (at_builtin; refine wpList_append_own2 _ rfl _ _ 22 rfl w.heap.size 69 i0 (.agg #[.int .i64 0, .int .i64 0]) 2 16 Try.underlying22 HI.out HZ0.out HZ1.out HZ2.out rfl (by decide) (.slice a3 k c3) k (M.flatMap lnC) rfl O2.out ⟨w1.heap.size, 0, none⟩ 1 1 (by decide) (lnC ⟨1 + (ym : Int), y⟩) rfl rfl (cells_new XB.out) (lnC_one _) (by unfold maxLen; omega) (by omega) hws2 ?_; intro g3 c3' w3 ho hgr hnil; have O3 := hide ho; have B3 := hide (B2.out.grown hgr B2.out.size (fun jj h => (O2.out.lt jj h).1)); clear ho hgr hnil)
      go_roundw
      case rel => exact ⟨k + 1, _, _, by omega, by go_num, rfl, by rw [HTN.out, HSN.out], by rw [HTN.out, List.flatMap_append]; simpa using O3.out, B3.out⟩
      case measure => simp [intOf]; omega
    · obtain rfl : n = k := by omega
      rw [← HEM.out] at OK hsb ⊢
      have hML : (evM L).length = n := by rw [evM_len]; omega
      have HEL := hide (show evenL L = if sumL (evM L) ≠ 0 ∨ (evM L).length < 2 then evM L ++ [⟨5, -sumL (evM L)⟩] else evM L from rfl)
      rw [hML] at HEL
      have HML := hide hML
      generalize evM L = M at *
      generalize hsm : sumL M = sm at *
      clear hsm hML
      have hng : IntKind.i64.wrap (-sm) = -sm := by rw [IntKind.wrap_i64]; omega
      have hal := (Below.refl wr.heap.size wr).alloc (Nat.le_refl _) (.cells #[.int .i64 5, .int .i64 (-sm)] 69)
      have XB := hide (heap_new wr (.cells #[.int .i64 5, .int .i64 (-sm)] 69))
      have O2 := hide (owns_below OK.out hal)
      have B2 := hide (BK.out.alloc BK.out.size (.cells #[.int .i64 5, .int .i64 (-sm)] 69))
      have hws2 : w.heap.size ≤ (wr.alloc (.cells #[.int .i64 5, .int .i64 (-sm)] 69)).heap.size := B2.out.size
      clear hal
      by_cases h0 : sm = 0
      · subst h0
        by_cases h2 : n < 2
        · rw [if_pos (.inr h2)] at HEL
          have h2i : (n : Int) < 2 := by omega
          go_wp2_with (at_builtin; refine wpList_append_own2 _ rfl _ _ 22 rfl w.heap.size 69 i0 (.agg #[.int .i64 0, .int .i64 0]) 2 16 Try.underlying22 HI.out HZ0.out HZ1.out HZ2.out rfl (by decide) (.slice a3 n c3) n (M.flatMap lnC) rfl O2.out ⟨wr.heap.size, 0, none⟩ 1 1 (by decide) (lnC ⟨5, -0⟩) rfl rfl (cells_new XB.out) (lnC_one _) (by unfold maxLen; omega) (by omega) hws2 ?_; intro g3 c3' w3 ho hgr hnil; have O3 := hide ho; have B3 := hide (B2.out.grown hgr B2.out.size (fun jj h => (O2.out.lt jj h).1)); clear ho hgr hnil)
          go_ret
          exact ⟨some ⟨g3, 0, none⟩, c3', by rw [HEL.out, List.length_append, HML.out]; rfl, by rw [HEL.out, List.length_append, HML.out]; exact owns_cap O3.out, LnIn.of_owns (c := c3') (by rw [HEL.out, List.length_append, HML.out, List.flatMap_append]; simpa using O3.out), B3.out⟩
        · rw [if_neg (by omega)] at HEL
          have h2i : ¬ (n : Int) < 2 := by omega
          clear O2 B2 XB hws2
          go_wp2_with fail
          go_ret
          exact ⟨a3, c3, by rw [HEL.out, HML.out]; rfl, by rw [HEL.out, HML.out]; exact owns_cap OK.out, LnIn.of_owns (c := c3) (by rw [HEL.out, HML.out]; exact OK.out), BK.out⟩
      · rw [if_pos (.inl h0)] at HEL
        have h0b : (sm == 0) = false := by simpa using h0
        go_wp2_with (at_builtin; refine wpList_append_own2 _ rfl _ _ 22 rfl w.heap.size 69 i0 (.agg #[.int .i64 0, .int .i64 0]) 2 16 Try.underlying22 HI.out HZ0.out HZ1.out HZ2.out rfl (by decide) (.slice a3 n c3) n (M.flatMap lnC) rfl O2.out ⟨wr.heap.size, 0, none⟩ 1 1 (by decide) (lnC ⟨5, -sm⟩) rfl rfl (cells_new XB.out) (lnC_one _) (by unfold maxLen; omega) (by omega) hws2 ?_; intro g3 c3' w3 ho hgr hnil; have O3 := hide ho; have B3 := hide (B2.out.grown hgr B2.out.size (fun jj h => (O2.out.lt jj h).1)); clear ho hgr hnil)
        go_ret
        exact ⟨some ⟨g3, 0, none⟩, c3', by rw [HEL.out, List.length_append, HML.out]; rfl, by rw [HEL.out, List.length_append, HML.out]; exact owns_cap O3.out, LnIn.of_owns (c := c3') (by rw [HEL.out, List.length_append, HML.out, List.flatMap_append]; simpa using O3.out), B3.out⟩

set_option maxRecDepth 100000 in
set_option maxHeartbeats 400000 in
theorem same_eq (L : List LnM) (hL : L.length ≤ 1000) (a a' : Option Addr) (c c' : Nat) (w : World) (hin : LnIn w a L) (hin' : LnIn w a' L) :
    Calls Try.prog 14 #[.slice a L.length c, .slice a' L.length c'] w fun e w' => e = .returned (.bool true) ∧ Below w.heap.size w w' := by
  have HA := hide hin
  have HB := hide hin'
  clear hin hin'
  go_enter Try.func14, Try.ntmps14
  go_wp2_with fail
  go_loopw [13] (fun i W => ∃ k : Nat, k ≤ L.length ∧ i = .int .i64 k ∧ Below w.heap.size w W) (fun i _ => L.length - (intOf i).toNat)
  case atStart => exact ⟨0, by omega, rfl, Below.refl _ _⟩
  case round =>
    obtain ⟨k, hk, rfl, hb⟩ := hrel
    have BK := hide hb
    clear hb
    by_cases hlt : k < L.length
    · obtain ⟨b, off, rfl, hbl, c0, c1⟩ := (HA.out.below BK.out) k hlt
      obtain ⟨b', off', rfl, hbl', e0, e1⟩ := (HB.out.below BK.out) k hlt
      generalize L.getD k ln0 = x at *
      obtain ⟨xc, xn⟩ := x
      dsimp only at *
      go_upto_region 6 with (fail)
      go_quiet (fail)
      generalize hv : wr.drewN _ = w4
      have B4 := hide (show Below w.heap.size w w4 from hv ▸ below_drewN BK.out _)
      clear hv c0 c1 e0 e1 BK hbl hbl'
      go_wp2_with fail
      go_roundw
      case rel => exact ⟨k + 1, by omega, by go_num, B4.out⟩
      case measure => simp [intOf]; omega
    · obtain rfl : k = L.length := by omega
      go_wp2_with fail
      go_ret
      exact ⟨rfl, BK.out⟩
end Go.Proofs.Ytjjldphbflbbdaa
