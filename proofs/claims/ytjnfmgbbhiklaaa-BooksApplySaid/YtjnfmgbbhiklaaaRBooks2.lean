/-
  Layer 23: the document's Apply.
-/
import Derived.Test.YtjnfmgbbhiklaaaRBooks
import Derived.Test.YtjnfmgbbhiklaaaBooks8
--import Derived.Test.Zdbg
namespace Go.Proofs.Ytjnfmgbbhiklaaa
set_option linter.unusedSimpArgs false
set_option linter.unusedVariables false
open Go.RowKit Go.WideShapes Go.ChangeShapes Go.ChangeAt Go.Deep

theorem below_dn {B : Nat} {a b : World} (h : Below B a b) (n : Nat) : Below B a (b.drewN n) := ⟨h.os, h.tape, h.output, h.size, h.block⟩
theorem setAll_snoc (t : Int → Int) (M : List LnM) (A : List Int) (a : Int) : setAll t M (A ++ [a]) = setB (setAll t M A) a (t a) := by unfold setAll; rw [List.foldl_append]; rfl
theorem getB_inR {M : List LnM} (h : ∀ x ∈ M, inR x.n) (a : Int) : inR (getB M a) := by
  induction M with
  | nil => show inR 0; unfold inR; omega
  | cons x M ih =>
    show inR (if x.c = a then x.n else getB M a)
    split
    · exact h x (by simp)
    · exact ih fun y hy => h y (by simp [hy])
theorem amts_next (P : List LnM) (a : Int) (j : Nat) (h : j < P.length) : amts (P.take (j + 1)) a = if (P.getD j ln0).c = a then amts (P.take j) a ++ [(P.getD j ln0).n] else amts (P.take j) a := by
  rw [ln_next P j h, amts_snoc]
def RAppIs (M P : List LnM) (w : World) (e : Ending) (w' : World) : Prop := ∃ (a : Option Addr) (c : Nat), e = .returned (.tuple #[.slice a (nextB M P).length c, .int .i64 (appE M P)]) ∧ LnIn w' a (nextB M P) ∧ Below w.heap.size w w'
theorem nextB_no {M P : List LnM} (h : ¬ appE M P = 0) : nextB M P = M := if_neg h
theorem appE_is {M P : List LnM} (h : ∀ x ∈ P, 0 ≤ x.c ∧ x.c ≤ 65535) (hs : ∀ j, j < P.length → inR (totB M P (P.getD j ln0).c)) : appE M P = 0 ∧ nextB M P = setAll (totB M P) M (P.map (·.c)) := by
  have h0 : appE M P = 0 := appE_of (fun x hx => by unfold accB; exact decide_eq_true (h x hx)) fun x hx => by
    obtain ⟨i, hi, rfl⟩ := List.getElem_of_mem hx
    have := hs i hi
    simpa [List.getD, hi] using this
  exact ⟨h0, if_pos h0⟩
set_option maxRecDepth 100000 in
set_option maxHeartbeats 1000000 in
theorem rbApply (M P : List LnM) (hM : M.length ≤ 9000) (hP : P.length ≤ 100) (hr : RiseB M) (hmo : ∀ x ∈ M, inR x.n) (hpo : ∀ x ∈ P, LnOk x) (a : Option Addr) (cap : Nat) (b : Option Addr) (capb : Nat) (w : World) (hin : LnIn w a M) (hib : LnIn w b P) :
    Calls Try.prog 9 #[.slice a M.length cap, .slice b P.length capb] w (RAppIs M P w) := by
  obtain ⟨i0, hi, hz0, hz1, hz2⟩ := info_parts (show (Try.prog.info? 2).map (fun i => (i.zero, i.size, i.bytes)) = some (some (.int .i64 0), 1, 8) by kernel_rfl)
  have HI := hide hi
  have HZ0 := hide hz0
  have HZ1 := hide hz1
  have HZ2 := hide hz2
  have HIN := hide hin
  have HIB := hide hib
  have HR := hide hr
  have HMO := hide hmo
  have HPO := hide hpo
  clear hi hz0 hz1 hz2 hin hib hr hmo hpo
  go_enter Try.func9, Try.ntmps9
  go_wp2_with fail
  go_loopw [6] (fun i W => ∃ k : Nat, k ≤ P.length ∧ i = .int .i64 k ∧ (∀ j, j < k → 0 ≤ (P.getD j ln0).c ∧ (P.getD j ln0).c ≤ 65535) ∧ w = W) (fun i _ => P.length - (intOf i).toNat)
  case atStart => exact ⟨0, by omega, rfl, fun j hj => absurd hj (Nat.not_lt_zero j), rfl⟩
  case round =>
    obtain ⟨k, hk, rfl, hno, rfl⟩ := hrel
    have HNO := hide hno
    clear hno
    by_cases hlt : k < P.length
    · obtain ⟨bb, off, rfl, hbl, c0, c1⟩ := HIB.out k hlt
      have HE3 := hide (fun h => appE_range (M := M) k hlt h)
      have HNX := hide (fun (h : 0 ≤ (P.getD k ln0).c ∧ (P.getD k ln0).c ≤ 65535) => show ∀ j, j < k + 1 → 0 ≤ (P.getD j ln0).c ∧ (P.getD j ln0).c ≤ 65535 from fun j hj => by
        by_cases e : j = k
        · subst e; exact h
        · exact HNO.out j (by omega))
      generalize P.getD k ln0 = x at *
      obtain ⟨xc, xn⟩ := x
      dsimp only at *
      by_cases hx0 : 0 ≤ xc
      · by_cases hx1 : xc ≤ 65535
        · have HNO2 := hide (HNX.out ⟨hx0, hx1⟩)
          have g0 : ¬ xc < 0 := by omega
          have g1 : ¬ 65535 < xc := by omega
          go_wp2_with fail
          go_roundw
          case rel => exact ⟨k + 1, by omega, by go_num, HNO2.out, trivial⟩
          case measure => simp [intOf]; omega
        · have HE := hide (HE3.out (fun h => hx1 h.2))
          have g1 : 65535 < xc := by omega
          have g0 : ¬ xc < 0 := by omega
          go_wp2_with fail
          go_ret2
          exact ⟨a, cap, by rw [HE.out, nextB_no (by rw [HE.out]; decide)]; rfl, by rw [nextB_no (by rw [HE.out]; decide)]; exact HIN.out, Below.refl _ _⟩
      · have HE := hide (HE3.out (fun h => hx0 h.1))
        have g0 : xc < 0 := by omega
        go_wp2_with fail
        go_ret2
        exact ⟨a, cap, by rw [HE.out, nextB_no (by rw [HE.out]; decide)]; rfl, by rw [nextB_no (by rw [HE.out]; decide)]; exact HIN.out, Below.refl _ _⟩
    · obtain rfl : k = P.length := by omega
      have HALL := hide (all_of HNO.out)
      clear HNO
      have HSL := hide (fun (A : List Int) => setAll_len (t := totB M P) A HR.out)
      go_wp2_with fail
      go_loopw [7, 8] (fun s i W => ∃ (k : Nat) (a7 : Option Addr) (c7 : Nat), k ≤ P.length ∧ i = .int .i64 k ∧ s = .slice a7 (setAll (totB M P) M ((P.take k).map (·.c))).length c7 ∧ LnIn W a7 (setAll (totB M P) M ((P.take k).map (·.c))) ∧ (∀ j, j < k → inR (totB M P (P.getD j ln0).c)) ∧ Below w.heap.size w W) (fun s i _ => P.length - (intOf i).toNat)
      case atStart => exact ⟨0, a, cap, by omega, rfl, rfl, HIN.out, fun j hj => absurd hj (Nat.not_lt_zero j), Below.refl _ _⟩
      case round =>
        obtain ⟨k, a7, c7, hk, rfl, rfl, hln, hto, hb⟩ := hrel
        have LO := hide hln
        have TO := hide hto
        have BW := hide hb
        clear hln hto hb
        by_cases hlt : k < P.length
        · obtain ⟨bb, off, rfl, hbl, c0, c1⟩ := HIB.out k hlt
          have HC0 := hide (fun (W : World) (h : Below w.heap.size w W) => cell_keep c0 hbl h)
          have HB0 := hide hbl
          clear c0 c1 hbl
          have HRS := hide (setAll_rise (t := totB M P) ((P.take k).map (·.c)) HR.out)
          have hsl := HSL.out ((P.take k).map (·.c))
          rw [List.length_map, List.length_take] at hsl
          have HSN := hide (show setAll (totB M P) M ((P.take (k + 1)).map (·.c)) = setB (setAll (totB M P) M ((P.take k).map (·.c))) (P.getD k ln0).c (totB M P (P.getD k ln0).c) by
            rw [ln_next P k hlt, List.map_append, List.map_singleton, setAll_snoc])
          have HOV := hide (fun h => appE_over (M := M) (L := P) HALL.out (a := (P.getD k ln0).c) (by unfold hasB; exact List.any_eq_true.2 ⟨_, ln_mem P k hlt, by simp⟩) h)
          have HTN := hide (fun (h : inR (totB M P (P.getD k ln0).c)) => show ∀ j, j < k + 1 → inR (totB M P (P.getD j ln0).c) from fun j hj => by
            by_cases e : j = k
            · subst e; exact h
            · exact TO.out j (by omega))
          generalize setAll (totB M P) M ((P.take k).map (·.c)) = O at *
          generalize P.getD k ln0 = x at *
          obtain ⟨xc, xn⟩ := x
          dsimp only at *
          have e0 := HC0.out _ BW.out
          have HG := hide (rbBal M (by omega) a cap xc wr (HIN.out.below BW.out))
          have HGI := hide (getB_inR HMO.out xc)
          have HTB := hide (show totB M P xc = getB M xc + sumA P xc from rfl)
          have HAI := hide (amts_in (L := P) (fun y hy => (HPO.out y hy).2) xc)
          have HAN := hide (fun (j : Nat) (h : j < P.length) => show (getB M xc :: amts (P.take (j + 1)) xc) = if (P.getD j ln0).c = xc then (getB M xc :: amts (P.take j) xc) ++ [(P.getD j ln0).n] else (getB M xc :: amts (P.take j) xc) by
            rw [amts_next P xc j h]
            split <;> rfl)
          generalize getB M xc = gb at *
          go_wp2_with fail
          refine HG.out.mono ?_
          rintro e w1 ⟨rfl, rfl⟩
          clear HG e0
          obtain ⟨u0, rfl⟩ : ∃ u0, u0 = wr := ⟨_, rfl⟩
          have hA := (Below.refl u0.heap.size u0).alloc (Nat.le_refl _) (.cells #[.int .i64 gb] 2)
          have OI := hide (show (u0.alloc (.cells #[.int .i64 gb] 2)).ownsRow u0.heap.size 2 1 (.slice (some ⟨u0.heap.size, 0, none⟩) (gb :: amts (P.take 0) xc).length 1) (gb :: amts (P.take 0) xc).length ((gb :: amts (P.take 0) xc).map (Value.int .i64)) from
            ⟨rfl, .inr ⟨u0.heap.size, 1, _, rfl, Nat.le_refl _, heap_new _ _, Nat.le_refl _, by decide, rfl, rfl⟩⟩)
          have BW1 := hide hA
          have BU := hide BW.out
          clear hA BW
          go_wp2_with fail
          go_loopw [9, 10] (fun s i W => ∃ (j : Nat) (a9 : Option Addr) (c9 : Nat), j ≤ P.length ∧ i = .int .i64 j ∧ s = .slice a9 (gb :: amts (P.take j) xc).length c9 ∧ W.ownsRow u0.heap.size 2 1 (.slice a9 (gb :: amts (P.take j) xc).length c9) (gb :: amts (P.take j) xc).length ((gb :: amts (P.take j) xc).map (Value.int .i64)) ∧ Below u0.heap.size u0 W) (fun s i _ => P.length - (intOf i).toNat)
          case atStart => exact ⟨0, some ⟨u0.heap.size, 0, none⟩, 1, by omega, rfl, rfl, OI.out, BW1.out⟩
          case round =>
            obtain ⟨j, a9, c9, hj, rfl, rfl, hrow, hb⟩ := hrel
            have OW := hide hrow
            have BW := hide hb
            clear hrow hb OI BW1
            by_cases hlt2 : j < P.length
            · obtain ⟨b2, off2, hbe, hbl2, d0, d1⟩ := HIB.out j hlt2
              simp only [Option.some.injEq, Addr.mk.injEq, and_true] at hbe
              obtain ⟨rfl, rfl⟩ := hbe
              have HD0 := hide (fun (W : World) (h : Below w.heap.size w W) => cell_keep d0 hbl2 h)
              have HD1 := hide (fun (W : World) (h : Below w.heap.size w W) => cell_keep d1 hbl2 h)
              clear d0 d1 hbl2
              have HNX := hide (HAN.out j hlt2)
              have hxl : (gb :: amts (P.take j) xc).length ≤ 200 := by
                have h1 := amts_len (P.take j) xc
                rw [List.length_take] at h1
                rw [List.length_cons]
                omega
              generalize gb :: amts (P.take j) xc = X at *
              generalize P.getD j ln0 = y at *
              obtain ⟨yc, yn⟩ := y
              dsimp only at *
              have e0 := HC0.out _ (BU.out.trans (BW.out.mono BU.out.size))
              have e1 := HD0.out _ (BU.out.trans (BW.out.mono BU.out.size))
              go_upto_region 14 with (fail)
              go_quiet (fail)
              generalize hv : wr.drewN _ = v0
              have OV := hide (show v0.ownsRow u0.heap.size 2 1 (.slice a9 X.length c9) X.length (X.map (Value.int .i64)) from hv ▸ OW.out)
              have BV := hide (show Below u0.heap.size u0 v0 from hv ▸ below_dn BW.out _)
              clear hv OW BW e0 e1
              have e1 := HD1.out _ (BU.out.trans (BV.out.mono BU.out.size))
              by_cases he : yc = xc
              · rw [if_pos he] at HNX
                subst he
                have hA := (Below.refl v0.heap.size v0).alloc (Nat.le_refl _) (.cells #[.int .i64 yn] 2)
                have HA := hide (owns_below OV.out hA)
                have HBA := hide (BV.out.alloc BV.out.size (.cells #[.int .i64 yn] 2))
                have hw5 : u0.heap.size ≤ (v0.alloc (.cells #[.int .i64 yn] 2)).heap.size := HBA.out.size
                have HW5 := hide hw5
                have HNEW := hide (new_one v0 (.int .i64 yn) 2)
                have HGE := hide (fun j (h : (Value.slice a9 X.length c9).ownBlock = some j) => (HA.out.lt j h).1)
                clear hw5 OV BV hA
                go_wp2_with (at_builtin; refine wpList_append_own _ rfl _ _ 67 rfl u0.heap.size 2 i0 (.int .i64 0) 1 8 Try.underlying67 HI.out HZ0.out HZ1.out HZ2.out rfl (by decide) (.slice a9 X.length c9) X.length (X.map (Value.int .i64)) rfl HA.out ⟨v0.heap.size, 0, none⟩ 1 1 [.int .i64 yn] rfl rfl HNEW.out (one_int _) (by unfold maxLen; omega) (by omega) HW5.out ?_; intro v' w' ho hgr hnil; obtain ⟨a3, c3', rfl⟩ := owns_slice_n ho; have HO6 := hide ho; have HB6 := hide (HBA.out.grown hgr HBA.out.size HGE.out); clear ho hgr hnil)
                go_roundw
                case rel => exact ⟨j + 1, a3, c3', by omega, by go_num, by rw [HNX.out]; simp, by rw [HNX.out]; simpa using HO6.out, HB6.out⟩
                case measure => simp [intOf]; omega
              · rw [if_neg he] at HNX
                go_wp2_with fail
                go_roundw
                case rel => exact ⟨j + 1, a9, c9, by omega, by go_num, by rw [HNX.out], by rw [HNX.out]; exact OV.out, BV.out⟩
                case measure => simp [intOf]; omega
            · obtain rfl : j = P.length := by omega
              rw [List.take_length] at OW
              rw [List.take_length]
              have hal2 := amts_len P xc
              have HSUM := hide (show (gb :: amts P xc).sum = totB M P xc by rw [HTB.out, List.sum_cons, amts_sum])
              have hxin : ∀ y ∈ gb :: amts P xc, inR y := fun y hy => by
                rcases List.mem_cons.1 hy with rfl | h
                · exact HGI.out
                · exact HAI.out y h
              have hxl : (gb :: amts P xc).length ≤ 200 := by rw [List.length_cons]; omega
              generalize gb :: amts P xc = X at *
              have HT := hide (rtotal_owns X hxin (by omega) a9 c9 _ wr OW.out)
              rw [HSUM.out] at HT
              have BWW := hide (BU.out.trans (BW.out.mono BU.out.size))
              have LO2 := hide (LO.out.below BW.out)
              clear OW BW LO hxin
              go_wp2_with fail
              refine HT.out.mono ?_
              rintro e w2 ⟨rfl, hb⟩
              have LO3 := hide (LO2.out.below hb)
              have B3 := hide (BWW.out.trans (hb.mono BWW.out.size))
              clear hb HT LO2 BWW
              by_cases ht : inR (totB M P xc)
              · obtain ⟨h1, h2⟩ := sum_in ht
                rw [h1, h2]
                have HTI := hide (HTN.out ht)
                have HSET := hide (rbSet O (by omega) HRS.out a7 c7 xc (totB M P xc) w2 LO3.out)
                unfold LinesTo at HSET
                rw [← HSN.out] at HSET
                generalize totB M P xc = t at *
                have e0 := HC0.out _ B3.out
                clear h1 h2 ht HOV HTN HTB HSUM
                go_wp2_with fail
                refine HSET.out.mono ?_
                rintro e w3 ⟨a8, c8, rfl, hln, hb⟩
                have LO4 := hide hln
                have B4 := hide (B3.out.trans (hb.mono B3.out.size))
                clear hb hln HSET
                go_wp2_with fail
                go_roundw
                case rel => exact ⟨k + 1, a8, c8, by omega, by go_num, by rw [List.map_take], LO4.out, HTI.out, B4.out⟩
                case measure => simp [intOf]; omega
              · obtain ⟨h1, h2⟩ := sum_out ht
                rw [h1, h2]
                have HE := hide (HOV.out ht)
                clear h1 h2 ht HOV
                go_wp2_with fail
                go_ret2
                exact ⟨a, cap, by rw [HE.out, nextB_no (by rw [HE.out]; decide)]; rfl, by rw [nextB_no (by rw [HE.out]; decide)]; exact HIN.out.below B3.out, B3.out⟩
        · obtain rfl : k = P.length := by omega
          rw [List.take_length] at LO
          rw [List.take_length]
          obtain ⟨h0, h1⟩ := appE_is HALL.out TO.out
          rw [← h1] at LO ⊢
          have HE := hide h0
          clear h0 h1
          go_wp2_with fail
          go_ret2
          exact ⟨a7, c7, by rw [HE.out]; rfl, LO.out, BW.out⟩
end Go.Proofs.Ytjnfmgbbhiklaaa
