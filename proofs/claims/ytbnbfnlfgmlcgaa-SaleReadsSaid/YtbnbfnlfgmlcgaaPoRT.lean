/-
  The posting of fields: pure, and the program's Read (as in layer 22).
-/
import Derived.Test.YtbnbfnlfgmlcgaaPoW
import Derived.Test.YtbnbfnlfgmlcgaaCur2
--import Derived.Test.Zdbg
namespace Go.Proofs.Ytbnbfnlfgmlcgaa
set_option linter.unusedSimpArgs false
set_option linter.unusedVariables false
open Go.RowKit Go.WideShapes Go.ChangeShapes Go.ChangeAt Go.Deep

def gt (s : ByteArray) : Int := (getN (last8 s.data.toList) : Int)
def lnR (s : ByteArray) (i : Nat) : LnM := ⟨wrap64 (gt (s.extract (1 + 10 * i) (3 + 10 * i))), wrap64 (gt (s.extract (3 + 10 * i) (11 + 10 * i)))⟩
def readL (s : ByteArray) (k : Nat) : List LnM := (List.range k).map (lnR s)
def cntS (s : ByteArray) : Nat := getN (last8 (s.extract 0 1).data.toList)
def readOk (s : ByteArray) : Bool := decide (1 ≤ s.size ∧ cntS s ≤ 8 ∧ 1 + 10 * cntS s ≤ s.size)
def rdL (s : ByteArray) : List LnM := if readOk s = true then readL s (cntS s) else []
def rdE (s : ByteArray) : Int := if readOk s = true then 0 else 4
def rdS (s : ByteArray) : ByteArray := if readOk s = true then s.extract (1 + 10 * cntS s) s.size else s
theorem readL_len (s : ByteArray) (k : Nat) : (readL s k).length = k := by simp [readL]
theorem readL_next (s : ByteArray) (k : Nat) : readL s (k + 1) = readL s k ++ [lnR s k] := by simp [readL, List.range_succ]
theorem ext_to (s : ByteArray) (i w : Nat) (h : i + w ≤ s.size) : (s.extract i s.size).extract 0 w = s.extract i (i + w) := by
  rw [ByteArray.extract_extract]
  congr 1
  omega
theorem ext_from (s : ByteArray) (i w : Nat) (h : i ≤ s.size) : (s.extract i s.size).extract w (s.extract i s.size).size = s.extract (i + w) s.size := by
  rw [ByteArray.extract_extract, ByteArray.size_extract, Nat.min_self]
  congr 1
  omega
theorem rdNum_ok (s : ByteArray) (wd : Nat) (h1 : 1 ≤ wd) (h8 : wd ≤ 8) (h : wd ≤ s.size) : rdNum s false wd = (s.extract 0 wd, s.extract wd s.size, false) := by
  unfold rdNum rdTake
  rw [if_neg (by decide), decide_eq_true (by omega), if_neg (by simp; omega), Int.toNat_natCast]
theorem rdNum_less (s : ByteArray) (wd : Nat) (h : s.size < wd) : rdNum s false wd = (⟨#[]⟩, s, true) := by
  unfold rdNum rdTake
  rw [if_neg (by decide), if_pos (.inr (by omega))]
theorem rdNum_bad (s : ByteArray) (wd : Int) : rdNum s true wd = (⟨#[]⟩, s, true) := by
  unfold rdNum rdTake
  rw [if_pos rfl]
/-- a line's two fields -/
theorem rd_step (s st : ByteArray) (bd : Bool) (k : Nat) (h0 : bd = false → st = s.extract (1 + 10 * k) s.size ∧ 1 + 10 * k ≤ s.size) (h1 : bd = true → s.size < 1 + 10 * k) :
    ((rdNum (rdNum st bd 2).2.1 (rdNum st bd 2).2.2 8).2.2 = false → bd = false ∧ (rdNum (rdNum st bd 2).2.1 (rdNum st bd 2).2.2 8).2.1 = s.extract (1 + 10 * (k + 1)) s.size ∧ 1 + 10 * (k + 1) ≤ s.size ∧ lnR s k = ⟨wrap64 (gt (rdNum st bd 2).1), wrap64 (gt (rdNum (rdNum st bd 2).2.1 (rdNum st bd 2).2.2 8).1)⟩) ∧
    ((rdNum (rdNum st bd 2).2.1 (rdNum st bd 2).2.2 8).2.2 = true → s.size < 1 + 10 * (k + 1)) ∧ (rdNum st bd 2).2.1.size ≤ st.size ∧ (rdNum (rdNum st bd 2).2.1 (rdNum st bd 2).2.2 8).2.1.size ≤ st.size := by
  cases bd with
  | true =>
    rw [rdNum_bad, rdNum_bad]
    exact ⟨fun h => (by cases h), fun _ => by have := h1 rfl; omega, Nat.le_refl _, Nat.le_refl _⟩
  | false =>
    obtain ⟨rfl, hk⟩ := h0 rfl
    have hsz : (s.extract (1 + 10 * k) s.size).size = s.size - (1 + 10 * k) := by rw [ByteArray.size_extract, Nat.min_self]
    by_cases h2 : 2 ≤ s.size - (1 + 10 * k)
    · have e1 := rdNum_ok (s.extract (1 + 10 * k) s.size) 2 (by decide) (by decide) (by omega)
      rw [ext_to s _ 2 (by omega), ext_from s _ 2 (by omega)] at e1
      rw [show ((2 : Nat) : Int) = 2 from rfl] at e1
      rw [e1]
      dsimp only
      have hsz2 : (s.extract (1 + 10 * k + 2) s.size).size = s.size - (1 + 10 * k + 2) := by rw [ByteArray.size_extract, Nat.min_self]
      by_cases h8 : 8 ≤ s.size - (1 + 10 * k + 2)
      · have e2 := rdNum_ok (s.extract (1 + 10 * k + 2) s.size) 8 (by decide) (by decide) (by omega)
        rw [ext_to s _ 8 (by omega), ext_from s _ 8 (by omega)] at e2
        rw [show ((8 : Nat) : Int) = 8 from rfl] at e2
        rw [e2]
        dsimp only
        refine ⟨fun _ => ⟨rfl, by rw [show 1 + 10 * k + 2 + 8 = 1 + 10 * (k + 1) by omega], by omega, ?_⟩, fun h => (by cases h), by omega, by rw [ByteArray.size_extract, Nat.min_self]; omega⟩
        unfold lnR
        rw [show 1 + 10 * k + 2 = 3 + 10 * k by omega, show 3 + 10 * k + 8 = 11 + 10 * k by omega]
      · have e2 := rdNum_less (s.extract (1 + 10 * k + 2) s.size) 8 (by omega)
        rw [show ((8 : Nat) : Int) = 8 from rfl] at e2
        rw [e2]
        have hle : (s.extract (1 + 10 * k + 2) s.size).size ≤ (s.extract (1 + 10 * k) s.size).size := by rw [hsz, hsz2]; omega
        exact ⟨fun h => (by cases h), fun _ => by omega, hle, hle⟩
    · have e1 := rdNum_less (s.extract (1 + 10 * k) s.size) 2 (by omega)
      rw [show ((2 : Nat) : Int) = 2 from rfl] at e1
      rw [e1]
      dsimp only
      rw [rdNum_bad]
      exact ⟨fun h => (by cases h), fun _ => by omega, Nat.le_refl _, Nat.le_refl _⟩
theorem owns_onlyP {w w' : World} {B e m n q : Nat} {v : Value} {xs : List Value} (h : w.ownsRow B e m v n xs) (ho : Only q w w') (hq : v.ownBlock ≠ some q) : w'.ownsRow B e m v n xs := by
  refine ⟨h.1, ?_⟩
  rcases h.2 with h3 | ⟨g, cap', cur, hv, hb, hh, h4⟩
  · exact .inl h3
  · exact .inr ⟨g, cap', cur, hv, hb, (ho.block g (heap_lt hh) (fun e => hq (by rw [hv, e]; rfl))).trans hh, h4⟩
theorem owns_kind_neP {w : World} {B e m n q : Nat} {v : Value} {xs : List Value} {c : Array Value} {t : TypeId} {fz : Nat × Nat} (h : w.ownsRow B e m v n xs) (hq : w.heap[q]? = some (.cells c t fz)) (ht : t ≠ e) : v.ownBlock ≠ some q := fun hk => by
  obtain ⟨c', fz', hc⟩ := Go.Lib.ownsRow_kind h q hk
  rw [hq] at hc
  simp only [Option.some.injEq, Obj.cells.injEq] at hc
  exact ht hc.2.1
theorem gt_lt (s : ByteArray) : 0 ≤ gt s ∧ gt s ≤ 18446744073709551615 := by
  have := getN_last8_lt s.data.toList
  unfold gt
  omega
def PReadIs (r : Nat) (s : ByteArray) (w : World) (e : Ending) (w' : World) : Prop := ∃ a c, e = .returned (.tuple #[.slice a (rdL s).length c, .int .i64 (rdE s)]) ∧ LnTy 80 w.heap.size w' a (rdL s) ∧ RdAt w' r (rdS s) false ∧ Only r w w'
theorem gt_nil : gt ⟨#[]⟩ = 0 := rfl
set_option maxRecDepth 100000 in
set_option maxHeartbeats 1000000 in
theorem pread_any (r : Nat) (s : ByteArray) (hs : s.size ≤ 1000000) (w : World) (h : RdAt w r s false) :
    Calls Try.prog 56 #[.pointer (some ⟨r, 0, none⟩)] w (PReadIs r s w) := by
  obtain ⟨i0, hi, hz0, hz1, hz2⟩ := info_parts (show (Try.prog.info? 80).map (fun i => (i.zero, i.size, i.bytes)) = some (some (.agg #[.int .i64 0, .int .i64 0]), 2, 16) by kernel_rfl)
  have HI := hide hi
  have HZ0 := hide hz0
  have HZ1 := hide hz1
  have HZ2 := hide hz2
  have HWR := hide (wrong_any r s false w h)
  have HR := hide h
  have HRL := hide (heap_lt h.row)
  have hal := (Below.refl w.heap.size w).alloc (Nat.le_refl _) (.cells #[.string s, .bool false] 98)
  have HQ := hide (RdAt.new w s)
  have BQ := hide hal
  obtain ⟨c0, c1, f0, f1⟩ := h.cells
  clear hi hz0 hz1 hz2 hal h
  go_enter Try.func56, Try.ntmps56
  go_wp2_with fail
  refine HWR.out.mono ?_
  rintro e w1 ⟨rfl, rfl⟩
  go_upto_region 4 with (fail)
  generalize w.alloc (.cells #[.string s, .bool false] 98) = w2 at *
  obtain ⟨q, hq⟩ : ∃ q, w.heap.size = q := ⟨_, rfl⟩
  have HQE := hide hq
  rw [hq] at HQ ⊢
  clear hq c0 c1 f0 f1 HWR
  have HN1 := hide (number_any q s (by omega) false 1 w2 HQ.out)
  rw [show (getN (last8 (rdNum s false 1).1.data.toList) : Int) = gt (rdNum s false 1).1 from rfl] at HN1
  by_cases hs1 : 1 ≤ s.size
  · have e1 := rdNum_ok s 1 (by decide) (by decide) hs1
    rw [show ((1 : Nat) : Int) = 1 from rfl] at e1
    rw [e1] at HN1
    dsimp only at HN1
    have hcn : gt (s.extract 0 1) = ((cntS s : Nat) : Int) := rfl
    rw [hcn] at HN1
    have hcl : cntS s < 18446744073709551616 := getN_last8_lt _
    obtain ⟨n, hn⟩ : ∃ n, cntS s = n := ⟨_, rfl⟩
    rw [hn] at HN1 hcl
    have HNN := hide hn
    clear e1 hcn hn
    go_wp2_with fail
    refine HN1.out.mono ?_
    rintro e w3 ⟨rfl, hr, ho⟩
    have R3 := hide hr
    have B3 := hide (ho.below BQ.out (by rw [HQE.out]; exact Nat.le_refl _) BQ.out.size)
    clear hr ho HN1 HQ BQ
    by_cases h8 : 8 < (n : Int)
    · have HOK := hide (show readOk s = false by unfold readOk; rw [HNN.out]; exact decide_eq_false (by omega))
      go_wp2_with fail
      go_ret2
      refine ⟨none, 0, ?_, ?_, ?_, Only.of_below B3.out⟩
      · rw [show rdL s = [] by unfold rdL; rw [HOK.out]; rfl, show rdE s = 4 by unfold rdE; rw [HOK.out]; rfl]; rfl
      · rw [show rdL s = [] by unfold rdL; rw [HOK.out]; rfl]
        exact fun i hi => absurd hi (Nat.not_lt_zero i)
      · rw [show rdS s = s by unfold rdS; rw [HOK.out]; rfl]
        exact HR.out.below B3.out
    · go_wp2_with fail
      go_loopw [6, 17] (fun t i W => ∃ (k : Nat) (a6 : Option Addr) (c6 : Nat) (M : List LnM) (st : ByteArray) (bd : Bool), k ≤ n ∧ i = .int .u64 k ∧ t = .slice a6 k c6 ∧ M.length = k ∧ W.ownsRow w.heap.size 80 2 (.slice a6 k c6) k (M.flatMap lnC) ∧ RdAt W q st bd ∧ st.size ≤ s.size ∧ (bd = false → st = s.extract (1 + 10 * k) s.size ∧ 1 + 10 * k ≤ s.size ∧ M = readL s k) ∧ (bd = true → s.size < 1 + 10 * k) ∧ Below w.heap.size w W) (fun t i _ => n - (intOf i).toNat)
      case atStart => exact ⟨0, none, 0, [], _, false, by omega, rfl, rfl, rfl, World.ownsRow_nil _ _ _ _, R3.out, by rw [ByteArray.size_extract]; omega, fun _ => ⟨rfl, by omega, rfl⟩, fun h => (by cases h), B3.out⟩
      case round =>
        obtain ⟨k, a6, c6, M, st, bd, hk, rfl, rfl, hml, ho, hr, hst, hg, hb, hbl⟩ := hrel
        have OK := hide ho
        have RK := hide hr
        have BK := hide hbl
        have HG := hide hg
        have HBD := hide hb
        have HML := hide hml
        have HST := hide hst
        clear ho hr hbl hg hb hml hst R3 B3
        by_cases hlt : k < n
        · have HSTEP := hide (rd_step s st bd k (fun h => ⟨(HG.out h).1, (HG.out h).2.1⟩) HBD.out)
          have HN2 := hide (number_any q st (by have := HST.out; omega) bd 2 wr RK.out)
          rw [show (getN (last8 (rdNum st bd 2).1.data.toList) : Int) = gt (rdNum st bd 2).1 from rfl] at HN2
          have hg1 := gt_lt (rdNum st bd 2).1
          have HG1 := hide hg1
          clear hg1
          have HRN := hide (readL_next s k)
          generalize rdNum st bd 2 = z1 at *
          obtain ⟨x1, st1, bd1⟩ := z1
          dsimp only at *
          have HN3 := hide (fun W hW => signed_any q st1 (by have := HSTEP.out.2.2.1; have := HST.out; omega) bd1 W hW)
          rw [show (getN (last8 (rdNum st1 bd1 8).1.data.toList) : Int) = gt (rdNum st1 bd1 8).1 from rfl] at HN3
          have HG2 := hide (gt_lt (rdNum st1 bd1 8).1)
          generalize rdNum st1 bd1 8 = z2 at *
          obtain ⟨x2, st2, bd2⟩ := z2
          dsimp only at *
          obtain ⟨v1, hv1⟩ : ∃ v, gt x1 = v := ⟨_, rfl⟩
          obtain ⟨v2, hv2⟩ : ∃ v, gt x2 = v := ⟨_, rfl⟩
          rw [hv1] at HN2 HSTEP HG1
          rw [hv2] at HN3 HSTEP HG2
          clear hv1 hv2 x1 x2
          have hkn : (k : Int) < (n : Int) := by omega
          go_wp2_with fail
          refine HN2.out.mono ?_
          rintro e w4 ⟨rfl, hr, ho⟩
          have R4 := hide hr
          have O4 := hide (owns_onlyP OK.out ho (owns_kind_neP OK.out RK.out.row (by decide)))
          have B4 := hide (ho.below BK.out (by rw [HQE.out]; exact Nat.le_refl _) BK.out.size)
          clear hr ho OK RK BK HN2
          go_wp2_with fail
          refine (HN3.out _ R4.out).mono ?_
          rintro e w5 ⟨rfl, hr, ho⟩
          have R5 := hide hr
          have O5 := hide (owns_onlyP O4.out ho (owns_kind_neP O4.out R4.out.row (by decide)))
          have B5 := hide (ho.below B4.out (by rw [HQE.out]; exact Nat.le_refl _) B4.out.size)
          clear hr ho O4 R4 B4 HN3
          have hal := (Below.refl w5.heap.size w5).alloc (Nat.le_refl _) (.cells #[.int .i64 (wrap64 v1), .int .i64 (wrap64 v2)] 80)
          have XB := hide (heap_new w5 (.cells #[.int .i64 (wrap64 v1), .int .i64 (wrap64 v2)] 80))
          have O6 := hide (owns_below O5.out hal)
          have R6 := hide (R5.out.below hal)
          have B6 := hide (B5.out.alloc B5.out.size (.cells #[.int .i64 (wrap64 v1), .int .i64 (wrap64 v2)] 80))
          have hws : w.heap.size ≤ (w5.alloc (.cells #[.int .i64 (wrap64 v1), .int .i64 (wrap64 v2)] 80)).heap.size := B6.out.size
          clear hal O5 R5 B5
          go_wp2_with (at_builtin; refine wpList_append_own2 _ rfl _ _ 33 rfl w.heap.size 80 i0 (.agg #[.int .i64 0, .int .i64 0]) 2 16 Try.underlying33 HI.out HZ0.out HZ1.out HZ2.out rfl (by decide) (.slice a6 k c6) k (M.flatMap lnC) rfl O6.out ⟨w5.heap.size, 0, none⟩ 1 1 (by decide) (lnC ⟨wrap64 v1, wrap64 v2⟩) rfl rfl (cells_new XB.out) (lnC_one _) (by unfold maxLen; omega) (by omega) hws ?_; intro g3 c3' w7 ho hgr hnil; have O7 := hide ho; have B7 := hide (B6.out.grown hgr B6.out.size (fun jj h => (O6.out.lt jj h).1)); have R7 := hide (show RdAt w7 q st2 bd2 from ⟨(hgr.block q (heap_lt R6.out.row) (fun h => owns_kind_neP O6.out R6.out.row (by decide) h.symm)).trans R6.out.row⟩); clear ho hgr hnil)
          go_roundw
          case rel =>
            refine ⟨k + 1, _, _, M ++ [⟨wrap64 v1, wrap64 v2⟩], st2, bd2, by omega, by go_num, rfl, by rw [List.length_append, HML.out]; rfl, by rw [List.flatMap_append]; simpa using O7.out, R7.out, by have := HSTEP.out.2.2.2; have := HST.out; omega, fun h => ?_, HSTEP.out.2.1, B7.out⟩
            obtain ⟨h1, h2, h3, h4⟩ := HSTEP.out.1 h
            exact ⟨h2, h3, by rw [HRN.out, h4, (HG.out h1).2.2]⟩
          case measure => simp [intOf]; omega
        · obtain rfl : n = k := by omega
          have HWG := hide (wrong_any q st bd wr RK.out)
          cases bd with
          | true =>
            have hlt1 := HBD.out rfl
            have HOK := hide (show readOk s = false by unfold readOk; rw [HNN.out]; exact decide_eq_false (by omega))
            go_wp2_with fail
            refine HWG.out.mono ?_
            rintro e w9 ⟨rfl, rfl⟩
            go_wp2_with fail
            go_ret2
            refine ⟨none, 0, ?_, ?_, ?_, Only.of_below BK.out⟩
            · rw [show rdL s = [] by unfold rdL; rw [HOK.out]; rfl, show rdE s = 4 by unfold rdE; rw [HOK.out]; rfl]; rfl
            · rw [show rdL s = [] by unfold rdL; rw [HOK.out]; rfl]
              exact fun i hi => absurd hi (Nat.not_lt_zero i)
            · rw [show rdS s = s by unfold rdS; rw [HOK.out]; rfl]
              exact HR.out.below BK.out
          | false =>
            obtain ⟨h1, h2, h3⟩ := HG.out rfl
            have HOK := hide (show readOk s = true by unfold readOk; rw [HNN.out]; exact decide_eq_true (by omega))
            have HRD := hide (show rdL s = M by unfold rdL; rw [if_pos HOK.out, HNN.out, h3])
            have HRE := hide (show rdE s = 0 by unfold rdE; rw [if_pos HOK.out])
            have HRS := hide (show rdS s = st by unfold rdS; rw [if_pos HOK.out, HNN.out, h1])
            have RW := hide (HR.out.below BK.out)
            obtain ⟨c0, c1, f0, f1⟩ := RW.out.cells
            obtain ⟨d0, d1, -, -⟩ := RK.out.cells
            have RF := hide ((RW.out.setLeft st))
            clear h1 h3
            go_wp2_with fail
            refine HWG.out.mono ?_
            rintro e w9 ⟨rfl, rfl⟩
            go_wp2_with fail
            go_ret2
            have ho := (Only.setCell (a := wr) r 0 (.string st)).trans (Only.setCell (a := wr.setCell ⟨r, 0, none⟩ (.string st)) r 1 (.bool false))
            have hne : (Value.slice a6 n c6).ownBlock ≠ some r := fun h => by
              have h1 := (OK.out.lt r h).1
              have h2 := HRL.out
              omega
            have O9 := owns_onlyP OK.out ho hne
            refine ⟨a6, c6, by rw [HRD.out, HRE.out, HML.out]; rfl, by rw [HRD.out]; exact LnTy.of_owns (c := c6) (by rw [HML.out]; exact O9), ⟨by rw [HRS.out, block_setCell RF.out.row]; rfl⟩, ?_⟩
            exact (Only.of_below BK.out).trans ho
  · have e1 := rdNum_less s 1 (by omega)
    rw [show ((1 : Nat) : Int) = 1 from rfl] at e1
    rw [e1] at HN1
    dsimp only at HN1
    rw [gt_nil] at HN1
    have HOK := hide (show readOk s = false by unfold readOk; exact decide_eq_false (fun h => hs1 h.1))
    clear e1
    go_wp2_with fail
    refine HN1.out.mono ?_
    rintro e w3 ⟨rfl, hr, ho⟩
    have R3 := hide hr
    have B3 := hide (ho.below BQ.out (by rw [HQE.out]; exact Nat.le_refl _) BQ.out.size)
    clear hr ho HN1 HQ BQ
    go_wp2_with fail
    go_loopw [6, 17] (fun t i W => t = .slice none 0 0 ∧ i = .int .u64 0 ∧ RdAt W q s true ∧ Below w.heap.size w W) (fun _ _ _ => 0)
    case atStart => exact ⟨rfl, rfl, R3.out, B3.out⟩
    case round =>
      obtain ⟨rfl, rfl, hr, hb⟩ := hrel
      have RK := hide hr
      have BK := hide hb
      clear hr hb R3 B3
      have HWG := hide (wrong_any q s true wr RK.out)
      go_wp2_with fail
      refine HWG.out.mono ?_
      rintro e w9 ⟨rfl, rfl⟩
      go_wp2_with fail
      go_ret2
      refine ⟨none, 0, ?_, ?_, ?_, Only.of_below BK.out⟩
      · rw [show rdL s = [] by unfold rdL; rw [HOK.out]; rfl, show rdE s = 4 by unfold rdE; rw [HOK.out]; rfl]; rfl
      · rw [show rdL s = [] by unfold rdL; rw [HOK.out]; rfl]
        exact fun i hi => absurd hi (Nat.not_lt_zero i)
      · rw [show rdS s = s by unfold rdS; rw [HOK.out]; rfl]
        exact HR.out.below BK.out
set_option maxRecDepth 100000 in
theorem pread_nil (w : World) : Calls Try.prog 56 #[.pointer none] w fun e w' => e = .returned (.tuple #[.slice none 0 0, .int .i64 4]) ∧ w = w' := by
  go_enter Try.func56, Try.ntmps56
  go_wp2_with fail
  refine (wrong_nil _).mono ?_
  rintro e w1 ⟨rfl, rfl⟩
  go_wp2_with fail
  go_ret2
  exact ⟨rfl, rfl⟩
end Go.Proofs.Ytbnbfnlfgmlcgaa
