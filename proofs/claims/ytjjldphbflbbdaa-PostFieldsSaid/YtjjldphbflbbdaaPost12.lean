/-
  Layer 22: the document's Check by contract.
-/
import Derived.Test.YtjjldphbflbbdaaPost11
--import Derived.Test.Zdbg
namespace Go.Proofs.Ytjjldphbflbbdaa
set_option linter.unusedSimpArgs false
set_option linter.unusedVariables false
open Go.RowKit Go.WideShapes Go.ChangeShapes Go.ChangeAt Go.Deep

theorem map_next (L : List LnM) (k : Nat) (h : k < L.length) : (L.take (k + 1)).map LnM.n = (L.take k).map LnM.n ++ [(L.getD k ln0).n] := by
  rw [ln_next L k h]; simp
theorem known_next (m : Nat) (L : List LnM) (k : Nat) (h : k < L.length) : knownL m (L.take (k + 1)) = (knownL m (L.take k) && decide (1 ≤ (L.getD k ln0).c ∧ (L.getD k ln0).c ≤ (m : Int))) := by
  rw [ln_next L k h]; simp [knownL]
theorem zeroIn_no (L : List LnM) (h : ∀ j, j < L.length → (L.getD j ln0).n ≠ 0) : zeroIn L = false := by
  unfold zeroIn
  rw [List.any_eq_false]
  intro x hx
  obtain ⟨i, hi, rfl⟩ := List.getElem_of_mem hx
  have := h i hi
  simp only [List.getD, List.getElem?_eq_getElem hi, Option.getD_some] at this
  simpa using this
set_option maxRecDepth 100000 in
set_option maxHeartbeats 400000 in
theorem rcheck_any (L : List LnM) (hL : L.length ≤ 1000) (hok : ∀ x ∈ L, LnOk x) (a : Option Addr) (cap : Nat) (aa : Option Addr) (ac : Nat) (w : World) (hin : LnIn w a L) (hac : AcIn w aa (accL 5)) :
    Calls Try.prog 13 #[.slice a L.length cap, .slice aa 5 ac] w fun e w' => e = .returned (.int .i64 (chkE 5 L)) ∧ Below w.heap.size w w' := by
  obtain ⟨i0, hi, hz0, hz1, hz2⟩ := info_parts (show (Try.prog.info? 2).map (fun i => (i.zero, i.size, i.bytes)) = some (some (.int .i64 0), 1, 8) by kernel_rfl)
  have HI := hide hi
  have HZ0 := hide hz0
  have HZ1 := hide hz1
  have HZ2 := hide hz2
  have HIN := hide hin
  have HAC := hide hac
  have HOK := hide hok
  have HFD := hide (fun (z : Int) W (hW : AcIn W aa (accL 5)) => show Calls Try.prog 33 #[.slice aa 5 ac, .int .i64 z] W fun e w' => ∃ r : Int, e = .returned (.int .i64 r) ∧ (0 ≤ r ↔ 1 ≤ z ∧ z ≤ 5) ∧ W = w' by
    have h1 := rfind_any (accL 5) (by rw [accL_len]; decide) z aa ac W hW
    rw [accL_len] at h1
    refine h1.mono ?_
    rintro e w' ⟨r, rfl, hr, rfl⟩
    exact ⟨r, rfl, hr.trans (accL_mem 5 z), rfl⟩)
  clear hi hz0 hz1 hz2 hin hac hok
  go_enter Try.func13, Try.ntmps13
  by_cases h1 : (L.length : Int) < 2
  · have HE := hide (show chkE 5 L = 2 by unfold chkE; rw [if_pos (.inl (by omega))])
    go_wp2_with fail
    go_ret
    exact ⟨ret_int HE.out.symm, Below.refl _ _⟩
  by_cases h2 : (8 : Int) < (L.length : Int)
  · have HE := hide (show chkE 5 L = 2 by unfold chkE; rw [if_pos (.inr (.inl (by omega)))])
    go_wp2_with fail
    go_ret
    exact ⟨ret_int HE.out.symm, Below.refl _ _⟩
  have HE2 := hide (fun (h : zeroIn L = true) => show chkE 5 L = 2 by unfold chkE; rw [if_pos (.inr (.inr h))])
  have HE3 := hide (fun (h : zeroIn L = false) => show chkE 5 L = if knownL 5 L = false then 19 else if sumL L = 0 then 0 else 18 by unfold chkE; rw [if_neg (by rw [h]; simp; omega)])
  go_wp2_with fail
  go_loopw [5, 6, 7] (fun s b i W => ∃ (k : Nat) (a5 : Option Addr) (c5 : Nat), k ≤ L.length ∧ i = .int .i64 k ∧ b = .bool (knownL 5 (L.take k)) ∧ s = .slice a5 k c5 ∧ (∀ j, j < k → (L.getD j ln0).n ≠ 0) ∧ W.ownsRow w.heap.size 2 1 (.slice a5 k c5) k (((L.take k).map LnM.n).map (Value.int .i64)) ∧ Below w.heap.size w W) (fun s b i _ => L.length - (intOf i).toNat)
  case atStart => exact ⟨0, none, 0, by omega, rfl, rfl, rfl, fun j hj => absurd hj (Nat.not_lt_zero j), World.ownsRow_nil _ _ _ _, Below.refl _ _⟩
  case round =>
    obtain ⟨k, a5, c5, hk, rfl, rfl, rfl, hno, ho, hb⟩ := hrel
    have HO := hide ho
    have HB := hide hb
    have HNO := hide hno
    clear ho hb hno
    by_cases hlt : k < L.length
    · obtain ⟨b, off, ha, hbl, c0, c1⟩ := (HIN.out.below HB.out) k hlt
      have HA := hide ha
      subst ha
      have HMN := hide (map_next L k hlt)
      have HKN := hide (known_next 5 L k hlt)
      have HZ := hide (fun (h : (L.getD k ln0).n = 0) => show zeroIn L = true from List.any_eq_true.2 ⟨_, ln_mem L k hlt, by simpa using h⟩)
      have HNX := hide (fun (h : (L.getD k ln0).n ≠ 0) => show ∀ j, j < k + 1 → (L.getD j ln0).n ≠ 0 from fun j hj => by
        by_cases e : j = k
        · subst e; exact h
        · exact HNO.out j (by omega))
      generalize L.getD k ln0 = x at *
      obtain ⟨xc, xn⟩ := x
      dsimp only at *
      by_cases hx : xn = 0
      · have HE := hide (HE2.out (HZ.out hx))
        subst hx
        go_wp2_with fail
        go_ret
        exact ⟨ret_int HE.out.symm, HB.out⟩
      · have HN2 := hide (HNX.out hx)
        have hxb : (xn == 0) = false := by simpa using hx
        have HF := hide (HFD.out xc wr (HAC.out.below HB.out))
        clear HZ HNX
        generalize (L.take k).map LnM.n = M at *
        generalize knownL 5 (L.take k) = kn at *
        go_wp2_with fail
        refine HF.out.mono ?_
        rintro e w2 ⟨r, rfl, hr, rfl⟩
        have HR := hide (show decide (1 ≤ xc ∧ xc ≤ ((5 : Nat) : Int)) = decide (0 ≤ r) from decide_eq_decide.2 hr.symm)
        rw [HR.out] at HKN
        clear hr HF hx hxb
        have hA := (Below.refl wr.heap.size wr).alloc (Nat.le_refl _) (.cells #[.int .i64 xn] 2)
        have HAL := hide (owns_below HO.out hA)
        have HBA := hide (HB.out.alloc HB.out.size (.cells #[.int .i64 xn] 2))
        have hw5 : w.heap.size ≤ (wr.alloc (.cells #[.int .i64 xn] 2)).heap.size := HBA.out.size
        have HW5 := hide hw5
        have HNEW := hide (new_one wr (.int .i64 xn) 2)
        have HGE := hide (fun j (h : (Value.slice a5 k c5).ownBlock = some j) => (HAL.out.lt j h).1)
        clear hw5 HO HB hA
        cases kn with
        | false =>
          rw [Bool.false_and] at HKN
          go_wp2_with (at_builtin; refine wpList_append_own _ rfl _ _ 88 rfl w.heap.size 2 i0 (.int .i64 0) 1 8 Try.underlying88 HI.out HZ0.out HZ1.out HZ2.out rfl (by decide) (.slice a5 k c5) k (M.map (Value.int .i64)) rfl HAL.out ⟨wr.heap.size, 0, none⟩ 1 1 [.int .i64 xn] rfl rfl HNEW.out (one_int _) (by unfold maxLen; omega) (by omega) HW5.out ?_; intro v' w' ho hgr hnil; obtain ⟨a3, c3', rfl⟩ := owns_slice_n ho; have HO6 := hide ho; have HB6 := hide (HBA.out.grown hgr HBA.out.size HGE.out); clear ho hgr hnil)
          go_roundw
          case rel => exact ⟨k + 1, a3, c3', by omega, by go_num, by rw [HKN.out], rfl, HN2.out, by rw [HMN.out]; simpa using HO6.out, HB6.out⟩
          case measure => simp [intOf]; omega
        | true =>
          rw [Bool.true_and] at HKN
          go_wp2_with (at_builtin; refine wpList_append_own _ rfl _ _ 88 rfl w.heap.size 2 i0 (.int .i64 0) 1 8 Try.underlying88 HI.out HZ0.out HZ1.out HZ2.out rfl (by decide) (.slice a5 k c5) k (M.map (Value.int .i64)) rfl HAL.out ⟨wr.heap.size, 0, none⟩ 1 1 [.int .i64 xn] rfl rfl HNEW.out (one_int _) (by unfold maxLen; omega) (by omega) HW5.out ?_; intro v' w' ho hgr hnil; obtain ⟨a3, c3', rfl⟩ := owns_slice_n ho; have HO6 := hide ho; have HB6 := hide (HBA.out.grown hgr HBA.out.size HGE.out); clear ho hgr hnil)
          go_roundw
          case rel => exact ⟨k + 1, a3, c3', by omega, by go_num, by rw [HKN.out], rfl, HN2.out, by rw [HMN.out]; simpa using HO6.out, HB6.out⟩
          case measure => simp [intOf]; omega
    · obtain rfl : k = L.length := by omega
      rw [List.take_length] at HO
      rw [List.take_length]
      have HE := hide (HE3.out (zeroIn_no L HNO.out))
      cases hkn : knownL 5 L with
      | false =>
        have HEK := hide (show chkE 5 L = 19 by rw [HE.out, if_pos hkn])
        go_wp2_with fail
        go_ret
        exact ⟨ret_int HEK.out.symm, HB.out⟩
      | true =>
        have HK1 := hide (show chkE 5 L = if sumL L = 0 then 0 else 18 by rw [HE.out, if_neg (by rw [hkn]; decide)])
        have hml : (L.map LnM.n).length = L.length := List.length_map ..
        have HT := hide (rtotal_owns (L.map LnM.n) (fun y hy => by obtain ⟨x, hx, rfl⟩ := List.mem_map.1 hy; exact (HOK.out x hx).2) (by rw [hml]; exact hL) a5 c5 w.heap.size wr (by rw [hml]; exact HO.out))
        rw [hml, show (L.map LnM.n).sum = sumL L from rfl] at HT
        clear hml
        generalize hS : sumL L = S at *
        clear hS
        by_cases h0 : S = 0
        · subst h0
          rw [(sum_in (show inR 0 by unfold inR; omega)).1, (sum_in (show inR 0 by unfold inR; omega)).2] at HT
          rw [if_pos rfl] at HK1
          go_wp2_with fail
          refine HT.out.mono ?_
          rintro e w2 ⟨rfl, hb⟩
          have B2 := hide (HB.out.trans (hb.mono HB.out.size))
          clear hb HB HT
          go_wp2_with fail
          go_ret
          exact ⟨ret_int HK1.out.symm, B2.out⟩
        · rw [if_neg h0] at HK1
          by_cases hr : inR S
          · rw [(sum_in hr).1, (sum_in hr).2] at HT
            go_wp2_with fail
            refine HT.out.mono ?_
            rintro e w2 ⟨rfl, hb⟩
            have B2 := hide (HB.out.trans (hb.mono HB.out.size))
            clear hb HB HT
            have h0b : (S == 0) = false := by simpa using h0
            go_wp2_with fail
            go_ret
            exact ⟨ret_int HK1.out.symm, B2.out⟩
          · rw [(sum_out hr).1, (sum_out hr).2] at HT
            go_wp2_with fail
            refine HT.out.mono ?_
            rintro e w2 ⟨rfl, hb⟩
            have B2 := hide (HB.out.trans (hb.mono HB.out.size))
            clear hb HB HT
            go_wp2_with fail
            go_ret
            exact ⟨ret_int HK1.out.symm, B2.out⟩
end Go.Proofs.Ytjjldphbflbbdaa
