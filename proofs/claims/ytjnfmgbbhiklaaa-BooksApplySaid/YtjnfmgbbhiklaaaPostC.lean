/-
  Layer 22: Contra, by itself (for seats that hold books).
-/
import Derived.Test.YtjnfmgbbhiklaaaMBooks2
--import Derived.Test.Zdbg
namespace Go.Proofs.Ytjnfmgbbhiklaaa
set_option linter.unusedSimpArgs false
set_option linter.unusedVariables false
open Go.RowKit Go.WideShapes Go.ChangeShapes Go.ChangeAt Go.Deep

theorem owns_cap {w : World} {B e m n c : Nat} {a : Option Addr} {xs : List Value} (h : w.ownsRow B e m (.slice a n c) n xs) : n ≤ c := by
  rcases h.2 with ⟨hv, rfl⟩ | ⟨g, cap', cur, hv, hb, hh, h4, -⟩
  · exact Nat.zero_le _
  · simp only [Value.slice.injEq] at hv
    obtain ⟨-, -, rfl⟩ := hv
    exact h4
def negX (x : LnM) : LnM := ⟨x.c, -x.n⟩
theorem negL_len (L : List LnM) : (negL L).length = L.length := by simp [negL]
theorem negL_next (L : List LnM) (k : Nat) (h : k < L.length) : negL (L.take (k + 1)) = negL (L.take k) ++ [negX (L.getD k ln0)] := by
  rw [ln_next L k h]
  simp [negL, negX]
def leastIn (L : List LnM) : Bool := L.any fun x => decide (x.n = -9223372036854775808)
theorem leastIn_no (L : List LnM) (h : ∀ j, j < L.length → (L.getD j ln0).n ≠ -9223372036854775808) : leastIn L = false := by
  unfold leastIn
  rw [List.any_eq_false]
  intro x hx
  obtain ⟨i, hi, rfl⟩ := List.getElem_of_mem hx
  have := h i hi
  simp only [List.getD, List.getElem?_eq_getElem hi, Option.getD_some] at this
  simpa using this
def ConIs (L : List LnM) (w : World) (e : Ending) (w' : World) : Prop := ((leastIn L = false ∧ ∃ a c, e = .returned (.tuple #[.slice a L.length c, .int .i64 0]) ∧ L.length ≤ c ∧ LnIn w' a (negL L)) ∨ (leastIn L = true ∧ e = .returned (.tuple #[.slice none 0 0, .int .i64 6]))) ∧ Below w.heap.size w w'
set_option maxRecDepth 100000 in
set_option maxHeartbeats 1000000 in
theorem contra_any (L : List LnM) (hL : L.length ≤ 1000) (hok : ∀ x ∈ L, inR x.n) (a : Option Addr) (cap : Nat) (w : World) (hin : LnIn w a L) :
    Calls Try.prog 19 #[.slice a L.length cap] w (ConIs L w) := by
  obtain ⟨i0, hi, hz0, hz1, hz2⟩ := info_parts (show (Try.prog.info? 56).map (fun i => (i.zero, i.size, i.bytes)) = some (some (.agg #[.int .i64 0, .int .i64 0]), 2, 16) by kernel_rfl)
  have HI := hide hi
  have HZ0 := hide hz0
  have HZ1 := hide hz1
  have HZ2 := hide hz2
  have HIN := hide hin
  have HOK := hide hok
  clear hi hz0 hz1 hz2 hin hok
  go_enter Try.func19, Try.ntmps19
  go_wp2_with fail
  go_loopw [4, 9] (fun s i W => ∃ (k : Nat) (a4 : Option Addr) (c4 : Nat), k ≤ L.length ∧ i = .int .i64 k ∧ s = .slice a4 k c4 ∧ (∀ j, j < k → (L.getD j ln0).n ≠ -9223372036854775808) ∧ W.ownsRow w.heap.size 56 2 (.slice a4 k c4) k ((negL (L.take k)).flatMap lnC) ∧ Below w.heap.size w W) (fun s i _ => L.length - (intOf i).toNat)
  case atStart => exact ⟨0, none, 0, by omega, rfl, rfl, fun j hj => absurd hj (Nat.not_lt_zero j), World.ownsRow_nil _ _ _ _, Below.refl _ _⟩
  case round =>
    obtain ⟨k, a4, c4, hk, rfl, rfl, hno, ho, hb⟩ := hrel
    have OA := hide ho
    have BK := hide hb
    have HNO := hide hno
    clear ho hb hno
    by_cases hlt : k < L.length
    · obtain ⟨b, off, rfl, hbl, c0, c1⟩ := (HIN.out.below BK.out) k (by omega)
      have HTN := hide (negL_next L k hlt)
      have HXO := hide (HOK.out _ (ln_mem L k hlt))
      have HLI := hide (fun (h : (L.getD k ln0).n = -9223372036854775808) => show leastIn L = true from List.any_eq_true.2 ⟨_, ln_mem L k hlt, by simpa using h⟩)
      have HNX := hide (fun (h : (L.getD k ln0).n ≠ -9223372036854775808) => show ∀ j, j < k + 1 → (L.getD j ln0).n ≠ -9223372036854775808 from fun j hj => by
        by_cases e : j = k
        · subst e; exact h
        · exact HNO.out j (by omega))
      generalize L.getD k ln0 = x at *
      obtain ⟨xc, xn⟩ := x
      dsimp only at *
      have hal := (Below.refl wr.heap.size wr).alloc (Nat.le_refl _) (.cells #[.int .i64 xc, .int .i64 xn] 56)
      have X1 := hide (heap_new wr (.cells #[.int .i64 xc, .int .i64 xn] 56))
      have OA1 := hide (owns_below OA.out hal)
      have B1 := hide (BK.out.alloc BK.out.size (.cells #[.int .i64 xc, .int .i64 xn] 56))
      clear hal OA BK hbl
      go_upto_region 5 with (fail)
      generalize wr.alloc (.cells #[.int .i64 xc, .int .i64 xn] 56) = w1 at *
      generalize wr.heap.size = q at *
      clear c0 c1
      have d0 := cell_of_block X1.out 0
      have d1 := cell_of_block X1.out 1
      by_cases hx : xn = -9223372036854775808
      · have HE := hide (HLI.out hx)
        subst hx
        go_wp2_with fail
        go_ret2
        exact ⟨.inr ⟨HE.out, rfl⟩, B1.out⟩
      · have HN2 := hide (HNX.out hx)
        have hng : IntKind.i64.wrap (-xn) = -xn := wrap_in (by have h1 := HXO.out; unfold inR at h1 ⊢; omega)
        have hal := (Below.refl w1.heap.size w1).alloc (Nat.le_refl _) (.cells #[.int .i64 xc, .int .i64 (-xn)] 56)
        have XB := hide (heap_new w1 (.cells #[.int .i64 xc, .int .i64 (-xn)] 56))
        have OA2 := hide (owns_below OA1.out hal)
        have B2 := hide (B1.out.alloc B1.out.size (.cells #[.int .i64 xc, .int .i64 (-xn)] 56))
        have hw2 : w.heap.size ≤ (w1.alloc (.cells #[.int .i64 xc, .int .i64 (-xn)] 56)).heap.size := B2.out.size
        clear hal OA1 B1 X1 HLI HNX
        go_wp2_with (at_builtin; refine wpList_append_own2 _ rfl _ _ 29 rfl w.heap.size 56 i0 (.agg #[.int .i64 0, .int .i64 0]) 2 16 Try.underlying29 HI.out HZ0.out HZ1.out HZ2.out rfl (by decide) (.slice a4 k c4) k ((negL (L.take k)).flatMap lnC) rfl OA2.out ⟨w1.heap.size, 0, none⟩ 1 1 (by decide) (lnC ⟨xc, -xn⟩) rfl rfl (cells_new XB.out) (lnC_one _) (by unfold maxLen; omega) (by omega) hw2 ?_; intro g3 c3' w3 ho hgr hnil; have OA3 := hide ho; have B3 := hide (B2.out.grown hgr B2.out.size (fun jj h => (OA2.out.lt jj h).1)); clear ho hgr hnil)
        go_roundw
        case rel => exact ⟨k + 1, _, _, by omega, by go_num, rfl, HN2.out, by rw [HTN.out, List.flatMap_append]; simpa [negX] using OA3.out, B3.out⟩
        case measure => simp [intOf]; omega
    · obtain rfl : k = L.length := by omega
      rw [List.take_length] at OA
      have HLN := hide (leastIn_no L HNO.out)
      go_wp2_with fail
      go_ret2
      exact ⟨.inl ⟨HLN.out, a4, c4, rfl, owns_cap OA.out, LnIn.of_owns (c := c4) (by rw [negL_len]; exact OA.out)⟩, BK.out⟩
end Go.Proofs.Ytjnfmgbbhiklaaa
