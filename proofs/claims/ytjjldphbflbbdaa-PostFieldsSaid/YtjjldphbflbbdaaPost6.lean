/-
  Layer 22: Contra and Check.
-/
import Derived.Test.YtjjldphbflbbdaaPost5
--import Derived.Test.Zdbg
namespace Go.Proofs.Ytjjldphbflbbdaa
set_option linter.unusedSimpArgs false
set_option linter.unusedVariables false
open Go.RowKit Go.WideShapes Go.ChangeShapes Go.ChangeAt Go.Deep

def negX (x : LnM) : LnM := ⟨x.c, -x.n⟩
def negL (L : List LnM) : List LnM := L.map negX
theorem negL_len (L : List LnM) : (negL L).length = L.length := by simp [negL]
theorem negL_next (L : List LnM) (k : Nat) (h : k < L.length) : negL (L.take (k + 1)) = negL (L.take k) ++ [negX (L.getD k ln0)] := by
  rw [ln_next L k h]
  simp [negL]
def leastIn (L : List LnM) : Bool := L.any fun x => decide (x.n = -9223372036854775808)
theorem leastIn_no (L : List LnM) (h : ∀ j, j < L.length → (L.getD j ln0).n ≠ -9223372036854775808) : leastIn L = false := by
  unfold leastIn
  rw [List.any_eq_false]
  intro x hx
  obtain ⟨i, hi, rfl⟩ := List.getElem_of_mem hx
  have := h i hi
  simp only [List.getD, List.getElem?_eq_getElem hi, Option.getD_some] at this
  simpa using this
def ConIs (L : List LnM) (w : World) (e : Ending) (w' : World) : Prop := ((leastIn L = false ∧ ∃ a c, e = .returned (.tuple #[.slice a L.length c, .int .i64 0]) ∧ L.length ≤ c ∧ LnIn w' a (negL L)) ∨ (leastIn L = true ∧ e = .returned (.tuple #[.slice none 0 0, .int .i64 6]))) ∧ Below w.heap.size w w'
set_option maxRecDepth 100000 in
set_option maxHeartbeats 1000000 in
theorem contra_any (L : List LnM) (hL : L.length ≤ 1000) (hok : ∀ x ∈ L, inR x.n) (a : Option Addr) (cap : Nat) (w : World) (hin : LnIn w a L) :
    Calls Try.prog 10 #[.slice a L.length cap] w (ConIs L w) := by
  obtain ⟨i0, hi, hz0, hz1, hz2⟩ := info_parts (show (Try.prog.info? 81).map (fun i => (i.zero, i.size, i.bytes)) = some (some (.agg #[.int .i64 0, .int .i64 0]), 2, 16) by kernel_rfl)
  have HI := hide hi
  have HZ0 := hide hz0
  have HZ1 := hide hz1
  have HZ2 := hide hz2
  have HIN := hide hin
  have HOK := hide hok
  clear hi hz0 hz1 hz2 hin hok
  go_enter Try.func10, Try.ntmps10
  go_wp2_with fail
  go_loopw [4, 9] (fun s i W => ∃ (k : Nat) (a4 : Option Addr) (c4 : Nat), k ≤ L.length ∧ i = .int .i64 k ∧ s = .slice a4 k c4 ∧ (∀ j, j < k → (L.getD j ln0).n ≠ -9223372036854775808) ∧ W.ownsRow w.heap.size 81 2 (.slice a4 k c4) k ((negL (L.take k)).flatMap lnC) ∧ Below w.heap.size w W) (fun s i _ => L.length - (intOf i).toNat)
  case atStart => exact ⟨0, none, 0, by omega, rfl, rfl, fun j hj => absurd hj (Nat.not_lt_zero j), World.ownsRow_nil _ _ _ _, Below.refl _ _⟩
  case round =>
    obtain ⟨k, a4, c4, hk, rfl, rfl, hno, ho, hb⟩ := hrel
    have OA := hide ho
    have BK := hide hb
    have HNO := hide hno
    clear ho hb hno
    by_cases hlt : k < L.length
    · obtain ⟨b, off, rfl, hbl, c0, c1⟩ := (HIN.out.below BK.out) k (by omega)
      have HTN := hide (negL_next L k hlt)
      have HXO := hide (HOK.out _ (ln_mem L k hlt))
      have HLI := hide (fun (h : (L.getD k ln0).n = -9223372036854775808) => show leastIn L = true from List.any_eq_true.2 ⟨_, ln_mem L k hlt, by simpa using h⟩)
      have HNX := hide (fun (h : (L.getD k ln0).n ≠ -9223372036854775808) => show ∀ j, j < k + 1 → (L.getD j ln0).n ≠ -9223372036854775808 from fun j hj => by
        by_cases e : j = k
        · subst e; exact h
        · exact HNO.out j (by omega))
      generalize L.getD k ln0 = x at *
      obtain ⟨xc, xn⟩ := x
      dsimp only at *
      have hal := (Below.refl wr.heap.size wr).alloc (Nat.le_refl _) (.cells #[.int .i64 xc, .int .i64 xn] 81)
      have X1 := hide (heap_new wr (.cells #[.int .i64 xc, .int .i64 xn] 81))
      have OA1 := hide (owns_below OA.out hal)
      have B1 := hide (BK.out.alloc BK.out.size (.cells #[.int .i64 xc, .int .i64 xn] 81))
      clear hal OA BK hbl
      go_upto_region 5 with (fail)
      generalize wr.alloc (.cells #[.int .i64 xc, .int .i64 xn] 81) = w1 at *
      generalize wr.heap.size = q at *
      clear c0 c1
      have d0 := cell_of_block X1.out 0
      have d1 := cell_of_block X1.out 1
      by_cases hx : xn = -9223372036854775808
      · have HE := hide (HLI.out hx)
        subst hx
        go_wp2_with fail
        go_ret2
        exact ⟨.inr ⟨HE.out, rfl⟩, B1.out⟩
      · have HN2 := hide (HNX.out hx)
        have hng : IntKind.i64.wrap (-xn) = -xn := wrap_in (by have h1 := HXO.out; unfold inR at h1 ⊢; omega)
        have hal := (Below.refl w1.heap.size w1).alloc (Nat.le_refl _) (.cells #[.int .i64 xc, .int .i64 (-xn)] 81)
        have XB := hide (heap_new w1 (.cells #[.int .i64 xc, .int .i64 (-xn)] 81))
        have OA2 := hide (owns_below OA1.out hal)
        have B2 := hide (B1.out.alloc B1.out.size (.cells #[.int .i64 xc, .int .i64 (-xn)] 81))
        have hw2 : w.heap.size ≤ (w1.alloc (.cells #[.int .i64 xc, .int .i64 (-xn)] 81)).heap.size := B2.out.size
        clear hal OA1 B1 X1 HLI HNX
        go_wp2_with (at_builtin; refine wpList_append_own2 _ rfl _ _ 30 rfl w.heap.size 81 i0 (.agg #[.int .i64 0, .int .i64 0]) 2 16 Try.underlying30 HI.out HZ0.out HZ1.out HZ2.out rfl (by decide) (.slice a4 k c4) k ((negL (L.take k)).flatMap lnC) rfl OA2.out ⟨w1.heap.size, 0, none⟩ 1 1 (by decide) (lnC ⟨xc, -xn⟩) rfl rfl (cells_new XB.out) (lnC_one _) (by unfold maxLen; omega) (by omega) hw2 ?_; intro g3 c3' w3 ho hgr hnil; have OA3 := hide ho; have B3 := hide (B2.out.grown hgr B2.out.size (fun jj h => (OA2.out.lt jj h).1)); clear ho hgr hnil)
        go_roundw
        case rel => exact ⟨k + 1, _, _, by omega, by go_num, rfl, HN2.out, by rw [HTN.out, List.flatMap_append]; simpa [negX] using OA3.out, B3.out⟩
        case measure => simp [intOf]; omega
    · obtain rfl : k = L.length := by omega
      rw [List.take_length] at OA
      have HLN := hide (leastIn_no L HNO.out)
      go_wp2_with fail
      go_ret2
      exact ⟨.inl ⟨HLN.out, a4, c4, rfl, owns_cap OA.out, LnIn.of_owns (c := c4) (by rw [negL_len]; exact OA.out)⟩, BK.out⟩
/-- what Check tells, by a chart of the codes 1 to m -/
def sumL (L : List LnM) : Int := (L.map LnM.n).sum
def knownL (m : Nat) (L : List LnM) : Bool := L.all fun x => decide (1 ≤ x.c ∧ x.c ≤ (m : Int))
def chkE (m : Nat) (L : List LnM) : Int := if L.length < 2 ∨ 8 < L.length ∨ zeroIn L = true then 2 else if knownL m L = false then 19 else if sumL L = 0 then 0 else 18
theorem knownL_yes (m : Nat) (L : List LnM) (h : ∀ j, j < L.length → 1 ≤ (L.getD j ln0).c ∧ (L.getD j ln0).c ≤ (m : Int)) : knownL m L = true := by
  unfold knownL
  rw [List.all_eq_true]
  intro x hx
  obtain ⟨i, hi, rfl⟩ := List.getElem_of_mem hx
  have := h i hi
  simp only [List.getD, List.getElem?_eq_getElem hi, Option.getD_some] at this
  simpa using this
theorem knownL_no (m : Nat) (L : List LnM) (k : Nat) (hk : k < L.length) (h : ¬ (1 ≤ (L.getD k ln0).c ∧ (L.getD k ln0).c ≤ (m : Int))) : knownL m L = false := by
  unfold knownL
  rw [List.all_eq_false]
  exact ⟨_, ln_mem L k hk, by simpa using h⟩
theorem wantN_all (L : List LnM) : wantN (fun _ => true) L = L.map LnM.n := by
  unfold wantN
  rw [List.filter_eq_self.2 (fun _ _ => rfl)]
set_option maxRecDepth 100000 in
set_option maxHeartbeats 1000000 in
theorem check_any (p bm m : Nat) (L : List LnM) (hL : L.length ≤ 1000) (hok : ∀ x ∈ L, LnOk x) (a : Option Addr) (cap : Nat) (w : World) (hin : LnIn w a L) (hc : ChartAt w p bm m) :
    Calls Try.prog 12 #[.slice a L.length cap, .pointer (some ⟨p, 0, none⟩)] w fun e w' => e = .returned (.int .i64 (chkE m L)) ∧ Below w.heap.size w w' := by
  have HIN := hide hin
  have HOK := hide hok
  have HC := hide hc
  clear hin hok hc
  go_enter Try.func12, Try.ntmps12
  by_cases h1 : (L.length : Int) < 2
  · have HE := hide (show chkE m L = 2 by unfold chkE; rw [if_pos (.inl (by omega))])
    go_wp2_with fail
    go_ret
    exact ⟨ret_int HE.out.symm, Below.refl _ _⟩
  by_cases h2 : (8 : Int) < (L.length : Int)
  · have HE := hide (show chkE m L = 2 by unfold chkE; rw [if_pos (.inr (.inl (by omega)))])
    go_wp2_with fail
    go_ret
    exact ⟨ret_int HE.out.symm, Below.refl _ _⟩
  have HCZ := hide (contains_zero L hL a cap w HIN.out)
  have HE2 := hide (fun (h : zeroIn L = true) => show chkE m L = 2 by unfold chkE; rw [if_pos (.inr (.inr h))])
  have HE3 := hide (fun (h : zeroIn L = false) => show chkE m L = if knownL m L = false then 19 else if sumL L = 0 then 0 else 18 by unfold chkE; rw [if_neg (by rw [h]; simp; omega)])
  go_wp2_with fail
  refine HCZ.out.mono ?_
  rintro e w1 ⟨rfl, hb⟩
  have I1 := hide (HIN.out.below hb)
  have C1 := hide (HC.out.below hb)
  have B1 := hide hb
  clear hb HIN HC HCZ
  cases hz : zeroIn L with
  | true =>
    have HE := hide (HE2.out hz)
    go_wp2_with fail
    go_ret
    exact ⟨ret_int HE.out.symm, B1.out⟩
  | false =>
    have HE := hide (HE3.out hz)
    clear HE2 HE3 hz
    go_wp2_with fail
    go_loopw [29] (fun i W => ∃ k : Nat, k ≤ L.length ∧ i = .int .i64 k ∧ (∀ j, j < k → 1 ≤ (L.getD j ln0).c ∧ (L.getD j ln0).c ≤ (m : Int)) ∧ LnIn W a L ∧ ChartAt W p bm m ∧ Below w.heap.size w W) (fun i _ => L.length - (intOf i).toNat)
    case atStart => exact ⟨0, by omega, rfl, fun j hj => absurd hj (Nat.not_lt_zero j), I1.out, C1.out, B1.out⟩
    case round =>
      obtain ⟨k, hk, rfl, hno, hin, hc, hb⟩ := hrel
      have IK := hide hin
      have CK := hide hc
      have BK := hide hb
      have HNO := hide hno
      clear hin hc hb hno I1 C1 B1
      by_cases hlt : k < L.length
      · obtain ⟨b, off, ha, hbl, c0, c1⟩ := IK.out k hlt
        have HKN := hide (knownL_no m L k hlt)
        have HKY := hide (fun (h : 1 ≤ (L.getD k ln0).c ∧ (L.getD k ln0).c ≤ (m : Int)) => show ∀ j, j < k + 1 → 1 ≤ (L.getD j ln0).c ∧ (L.getD j ln0).c ≤ (m : Int) from fun j hj => by
          by_cases e : j = k
          · subst e; exact h
          · exact HNO.out j (by omega))
        have HXO := (HOK.out _ (ln_mem L k hlt)).1
        have HA := hide ha
        subst ha
        generalize L.getD k ln0 = x at *
        obtain ⟨xc, xn⟩ := x
        dsimp only at *
        have hal := (Below.refl wr.heap.size wr).alloc (Nat.le_refl _) (.cells #[.int .i64 xc, .int .i64 xn] 81)
        have X1 := hide (heap_new wr (.cells #[.int .i64 xc, .int .i64 xn] 81))
        have I1 := hide (IK.out.below hal)
        have C1 := hide (CK.out.below hal)
        have B1 := hide (BK.out.alloc BK.out.size (.cells #[.int .i64 xc, .int .i64 xn] 81))
        clear hal IK CK BK hbl
        have HG := hide (cget_any p bm m xc HXO _ C1.out)
        go_upto_region 9 with (fail)
        generalize wr.alloc (.cells #[.int .i64 xc, .int .i64 xn] 81) = w1 at *
        generalize wr.heap.size = q at *
        clear c0 c1
        have d0 := cell_of_block X1.out 0
        by_cases hx : 1 ≤ xc ∧ xc ≤ (m : Int)
        · have HNX := hide (HKY.out hx)
          rw [if_pos hx, decide_eq_true hx] at HG
          unfold accV at HG
          clear HKN HKY hx
          go_wp2_with fail
          refine HG.out.mono ?_
          rintro e w2 ⟨rfl, hb⟩
          have hal := hb.alloc (Nat.le_trans (Nat.le_refl _) hb.size) (.cells #[.int .i64 xc, .int .u8 1, .string ⟨#[120]⟩] 75)
          have I2 := hide (I1.out.below hal)
          have C2 := hide (C1.out.below hal)
          have B2 := hide (B1.out.trans (hal.mono B1.out.size))
          clear hal hb I1 C1 B1 HG d0
          go_wp2_with fail
          go_roundw
          case rel => exact ⟨k + 1, by omega, by go_num, HNX.out, I2.out, C2.out, B2.out⟩
          case measure => simp [intOf]; omega
        · have HEK := hide (show chkE m L = 19 by rw [HE.out, if_pos (HKN.out hx)])
          rw [if_neg hx, decide_eq_false hx] at HG
          unfold zeroA at HG
          clear HKN HKY hx
          go_wp2_with fail
          refine HG.out.mono ?_
          rintro e w2 ⟨rfl, hb⟩
          have hal := hb.alloc (Nat.le_trans (Nat.le_refl _) hb.size) (.cells #[.int .i64 0, .int .u8 0, .string ⟨#[]⟩] 75)
          have B2 := hide (B1.out.trans (hal.mono B1.out.size))
          clear hal hb I1 C1 B1 HG d0
          go_wp2_with fail
          go_ret
          exact ⟨ret_int HEK.out.symm, B2.out⟩
      · obtain rfl : k = L.length := by omega
        have HT := hide (total_with 32 (enters Try.func32 (by kernel_rfl) rfl) #[] _ _ wr (fun _ _ _ _ _ => trivial) check2_tells L hL (fun x hx => (HOK.out x hx).2) a cap IK.out trivial)
        rw [wantN_all] at HT
        have HK1 := hide (show chkE m L = if sumL L = 0 then 0 else 18 by rw [HE.out, if_neg (by rw [knownL_yes m L HNO.out]; decide)])
        rw [show (L.map LnM.n).sum = sumL L from rfl] at HT
        generalize hS : sumL L = S at *
        clear hS
        by_cases h0 : S = 0
        · subst h0
          rw [(sum_in (show inR 0 by unfold inR; omega)).1, (sum_in (show inR 0 by unfold inR; omega)).2] at HT
          rw [if_pos rfl] at HK1
          go_wp2_with fail
          refine HT.out.mono ?_
          rintro e w2 ⟨rfl, hb⟩
          have B2 := hide (BK.out.trans (hb.mono BK.out.size))
          clear hb BK HT
          go_wp2_with fail
          go_ret
          exact ⟨ret_int HK1.out.symm, B2.out⟩
        · rw [if_neg h0] at HK1
          by_cases hr : inR S
          · rw [(sum_in hr).1, (sum_in hr).2] at HT
            go_wp2_with fail
            refine HT.out.mono ?_
            rintro e w2 ⟨rfl, hb⟩
            have B2 := hide (BK.out.trans (hb.mono BK.out.size))
            clear hb BK HT
            have h0b : (S == 0) = false := by simpa using h0
            go_wp2_with fail
            go_ret
            exact ⟨ret_int HK1.out.symm, B2.out⟩
          · rw [(sum_out hr).1, (sum_out hr).2] at HT
            go_wp2_with fail
            refine HT.out.mono ?_
            rintro e w2 ⟨rfl, hb⟩
            have B2 := hide (BK.out.trans (hb.mono BK.out.size))
            clear hb BK HT
            go_wp2_with fail
            go_ret
            exact ⟨ret_int HK1.out.symm, B2.out⟩
end Go.Proofs.Ytjjldphbflbbdaa
