/-
  PostFields: the fields of every posting, and the posting of every fields, are the document's, or there are none; what stands behind them isn't read. No condition.
-/
import Derived.Test.YtjjldphbflbbdaaPost15
--import Derived.Test.Zdbg
namespace Go.Proofs.Ytjjldphbflbbdaa
set_option linter.unusedSimpArgs false
set_option linter.unusedVariables false
open Go.RowKit Go.WideShapes Go.ChangeShapes Go.ChangeAt Go.Deep

def BothIn (W : World) (u1 u2 : Option Addr) (Z : List LnM) : Prop := LnIn W u1 Z ∧ LnIn W u2 Z
theorem BothIn.below {W W' : World} {u1 u2 : Option Addr} {Z : List LnM} (h : BothIn W u1 u2 Z) (hb : Below W.heap.size W W') : BothIn W' u1 u2 Z := ⟨h.1.below hb, h.2.below hb⟩
theorem lnTs_len : ∀ L : List LnM, (L.flatMap lnT).length ≤ 16 * L.length
  | [] => Nat.le_refl _
  | x :: L => by
    have h1 := lnTs_len L
    have h2 := lnT_len x
    rw [List.flatMap_cons, List.length_append, List.length_cons]
    omega
theorem txtS_size (L : List LnM) : (txtS L).size ≤ 200 := by
  unfold txtS
  split
  · rename_i h
    have h8 : L.length ≤ 8 := by
      unfold textOk at h
      rw [Bool.and_eq_true] at h
      exact of_decide_eq_true h.1
    have h1 := lnTs_len L
    have h2 := putS_le (L.length : Int) 1
    rw [bs_size]
    unfold poT
    rw [List.length_append]
    omega
  · exact Nat.zero_le _
theorem rdS_size (s : ByteArray) (h : readOk s = true) : ((rdS s).size : Int) = (s.size : Int) - rdN s := by
  have h1 := of_decide_eq_true (show decide (1 ≤ s.size ∧ cntS s ≤ 8 ∧ 1 + 10 * cntS s ≤ s.size) = true from h)
  unfold rdS rdN
  rw [if_pos h, if_pos h, ByteArray.size_extract, Nat.min_self]
  omega
set_option maxRecDepth 100000 in
set_option maxHeartbeats 400000 in
theorem postFields_walk (L : List LnM) (a : Option Addr) (cap : Nat) (hcap : L.length ≤ cap) (h63 : L.length ≤ 9223372036854775807) (s0 : ByteArray) (hs63 : s0.size ≤ 9223372036854775807) (w : World) (hin : LnIn w a L) (hok : ∀ x ∈ L, LnOk x) :
    Calls Try.prog 4 #[.slice a L.length cap, .string s0] w fun e w' => e = .returned (.bool true) ∧ Below w.heap.size w w' := by
  have HLI := hide (lines_any L a cap (min L.length 20) rfl hcap w hin)
  have HOK := hide hok
  obtain ⟨m, hm⟩ : ∃ m : Nat, min s0.size 200 = m := ⟨_, rfl⟩
  have hm1 : m ≤ s0.size := by omega
  have hmF : (if (200 : Int) < (s0.size : Int) then (200 : Int) else (s0.size : Int)) = (m : Int) := by split <;> omega
  have hmI : min (s0.size : Int) 200 = (m : Int) := by omega
  have HSZ := hide (show (s0.extract 0 m).size ≤ 200 by rw [ByteArray.size_extract]; omega)
  clear hm hin hok hcap
  go_enter Try.func4, Try.ntmps4
  go_upto_region 2 with (fail)
  generalize s0.extract 0 m = s at *
  clear hmF hmI hm1
  go_wp2_with fail
  refine HLI.out.mono ?_
  rintro e w2 ⟨u1, k1, u2, k2, rfl, -, -, hp, hq, hb⟩
  obtain ⟨Z, hZ⟩ : ∃ Z, L.take (min L.length 20) = Z := ⟨_, rfl⟩
  have hZl : min L.length 20 = Z.length := by rw [← hZ, List.length_take]; omega
  have HZ20 := hide (show Z.length ≤ 20 by rw [← hZl]; omega)
  have HZO := hide (show ∀ x ∈ Z, LnOk x from fun x hx => HOK.out x (List.mem_of_mem_take (hZ ▸ hx)))
  rw [hZ] at hp hq
  rw [hZl]
  have Z2 := hide (show BothIn w2 u1 u2 Z from ⟨hp, hq⟩)
  have B2 := hide hb
  clear hp hq hb HLI HOK hZ hZl
  go_upto_region 4 with (fail)
  have hal := (Below.refl w2.heap.size w2).alloc (Nat.le_refl _) (.cells #[.slice none 0 0, .bool false] 52)
  have W3 := hide (show WrAt (w2.alloc (.cells #[.slice none 0 0, .bool false] 52)) w2.heap.size w2.heap.size [] false from ⟨none, 0, heap_new w2 _, World.ownsRow_nil _ _ _ _⟩)
  have A3 := hide hal
  have HPW := hide (pwrite_any Z HZ20.out HZO.out u1 k1 w2.heap.size w2 (w2.alloc (.cells #[.slice none 0 0, .bool false] 52)) Z2.out.1 hal W3.out (Nat.le_refl _))
  clear hal
  generalize w2.alloc (.cells #[.slice none 0 0, .bool false] 52) = w3 at *
  obtain ⟨q, hq⟩ : ∃ q, w2.heap.size = q := ⟨_, rfl⟩
  have HQE := hide hq
  rw [hq] at HPW ⊢
  clear hq
  go_wp2_with fail
  refine HPW.out.mono ?_
  rintro e w4 ⟨rfl, l, hw, hl, hb⟩
  rw [HQE.out] at hw
  have W4 := hide hw
  have Z4 := hide (Z2.out.below hb)
  have B4 := hide (B2.out.trans (hb.mono B2.out.size))
  have HTX := hide (show (if (!textOk Z) = true then (⟨#[]⟩ : ByteArray) else bs l) = txtS Z by
    unfold txtS
    cases ht : textOk Z with
    | true => rw [hl ht]; rfl
    | false => rfl)
  clear hw hl hb HPW W3 A3 Z2 B2
  have HPN := hide (pwrite_nil Z HZ20.out HZO.out u1 k1 w4 Z4.out.1)
  go_wp2_with fail
  refine HPN.out.mono ?_
  rintro e w5 ⟨rfl, hb⟩
  have W5 := hide (W4.out.below hb)
  have Z5 := hide (Z4.out.below hb)
  have B5 := hide (B4.out.trans (hb.mono B4.out.size))
  clear hb W4 Z4 B4 HPN
  have HWB := hide (wbytes_any q q l (!textOk Z) w5 W5.out)
  rw [HTX.out] at HWB
  have HRT := hide (rptext Z HZ20.out HZO.out u2 k2 w5 Z5.out.2)
  have HTZ := hide (txtS_size Z)
  generalize txtS Z = T at *
  clear HTX
  cases ht : textOk Z with
  | true =>
    rw [ht, if_neg (by decide)] at HWB
    rw [ht] at HRT
    go_wp2_with fail
    refine HWB.out.mono ?_
    rintro e w5' ⟨rfl, rfl⟩
    go_wp2_with fail
    refine HRT.out.mono ?_
    rintro e w6 ⟨rfl, hb⟩
    have B6 := hide (B5.out.trans (hb.mono B5.out.size))
    clear hb W5 Z5 B5 HWB HRT
    obtain ⟨d, hd⟩ : ∃ d : Nat, min T.size s.size = d := ⟨_, rfl⟩
    have hd1 : d ≤ T.size := by omega
    have hdF : (if (s.size : Int) < (T.size : Int) then (s.size : Int) else (T.size : Int)) = (d : Int) := by split <;> omega
    have hdI : min (T.size : Int) (s.size : Int) = (d : Int) := by omega
    have hdN : (if s.size < T.size then (s.size : Int) else (T.size : Int)) = (d : Int) := by split <;> omega
    have hsz := HSZ.out
    have htz := HTZ.out
    obtain ⟨f, hf⟩ : ∃ f : Nat, T.size - d = f := ⟨_, rfl⟩
    have hfI : (T.size : Int) - (d : Int) = (f : Int) := by omega
    have hf1 : f ≤ T.size := by omega
    have hf0 : (0 : Int) ≤ (f : Int) := by omega
    have hadd : ¬ (9223372036854775807 < T.size + s.size) := by omega
    have HXS := hide (show (T ++ s).size ≤ 1000000 ∧ (T.extract 0 f).size ≤ 1000000 ∧ s.size ≤ 1000000 from ⟨by rw [ByteArray.size_append]; omega, by rw [ByteArray.size_extract]; omega, by omega⟩)
    clear hd hf
    go_upto_region 11 with (fail)
    have X7 := hide (heap_new w6 (.cells #[.string s, .string (T ++ s), .string (T.extract 0 f)] 9))
    have B7 := hide (B6.out.alloc B6.out.size (.cells #[.string s, .string (T ++ s), .string (T.extract 0 f)] 9))
    clear B6 hadd hdF hdI hdN hfI hf0 hf1 hd1 hsz htz
    generalize w6.alloc (.cells #[.string s, .string (T ++ s), .string (T.extract 0 f)] 9) = w7 at *
    generalize w6.heap.size = g at *
    go_loopw [70] (fun i W => ∃ j : Nat, j ≤ 3 ∧ i = .int .i64 j ∧ W.heap[g]? = some (.cells #[.string s, .string (T ++ s), .string (T.extract 0 f)] 9 (0, 0)) ∧ Below w.heap.size w W) (fun i _ => 3 - (intOf i).toNat)
    case atStart => exact ⟨0, by omega, rfl, X7.out, B7.out⟩
    case round =>
      obtain ⟨j, hj, rfl, hx, hb⟩ := hrel
      have XJ := hide hx
      have BJ := hide hb
      clear hx hb X7 B7
      by_cases hlt : j < 3
      · have cz := cell_of_block XJ.out j
        obtain ⟨x, hx, hxs⟩ : ∃ x : ByteArray, (#[Value.string s, .string (T ++ s), .string (T.extract 0 f)] : Array Value)[j]? = some (.string x) ∧ x.size ≤ 1000000 := by
          have h0 : j = 0 ∨ j = 1 ∨ j = 2 := by omega
          rcases h0 with rfl | rfl | rfl
          · exact ⟨_, rfl, HXS.out.2.2⟩
          · exact ⟨_, rfl, HXS.out.1⟩
          · exact ⟨_, rfl, HXS.out.2.1⟩
        rw [hx] at cz
        have HX := hide hxs
        clear hx hxs
        go_wp2_with fail
        refine (read_any x _).mono ?_
        rintro e w8 ⟨rfl, hr, hb⟩
        obtain ⟨r, hrr⟩ : ∃ r, wr.heap.size = r := ⟨_, rfl⟩
        have HG := hide (show g < r from hrr ▸ heap_lt XJ.out)
        have HWR := hide (show w.heap.size ≤ r from hrr ▸ BJ.out.size)
        have X8 := hide ((hb.block _ (heap_lt XJ.out)).trans XJ.out)
        have B8 := hide (BJ.out.trans (hb.mono BJ.out.size))
        rw [hrr] at hr ⊢
        have R8 := hide hr
        clear hr hb XJ BJ cz hrr
        go_wp2_with fail
        refine (pread_any r r x HX.out w8 R8.out (Nat.le_refl _)).mono ?_
        rintro e w9 ⟨a9, c9, rfl, hl9, hr9, hb⟩
        have L9 := hide hl9
        have R9 := hide hr9
        have X9 := hide ((hb.block g HG.out).trans X8.out)
        have B9 := hide (B8.out.trans (hb.mono HWR.out))
        clear hl9 hr9 hb R8 X8 B8
        go_wp2_with fail
        refine (rpread x HX.out w9).mono ?_
        rintro e w10 ⟨a10, c10, rfl, hl10, hb⟩
        have M10 := hide hl10
        have L10 := hide (L9.out.below hb)
        have R10 := hide (R9.out.below hb)
        have X10 := hide ((hb.block _ (heap_lt X9.out)).trans X9.out)
        have B10 := hide (B9.out.trans (hb.mono B9.out.size))
        clear hl10 hb L9 R9 X9 B9
        have HRL := hide (show (rdL x).length ≤ 1000 by
          unfold rdL
          split
          · rename_i h
            have h1 := of_decide_eq_true (show decide (1 ≤ x.size ∧ cntS x ≤ 8 ∧ 1 + 10 * cntS x ≤ x.size) = true from h)
            rw [readL_len]; omega
          · exact Nat.zero_le _)
        go_wp2_with fail
        refine (same_eq (rdL x) HRL.out a9 a10 c9 c10 w10 L10.out M10.out).mono ?_
        rintro e w11 ⟨rfl, hb⟩
        have R11 := hide (R10.out.below hb)
        have X11 := hide ((hb.block _ (heap_lt X10.out)).trans X10.out)
        have B11 := hide (B10.out.trans (hb.mono B10.out.size))
        clear hb L10 M10 R10 X10 B10 HRL
        cases hro : readOk x with
        | true =>
          have HE := hide (show rdE x = 0 by unfold rdE; rw [if_pos hro])
          rw [HE.out]
          have HLF := hide (left_any r (rdS x) false w11 R11.out)
          rw [if_neg (by decide), rdS_size x hro] at HLF
          have hnb : 0 ≤ rdN x ∧ rdN x ≤ (x.size : Int) := by
            have h1 := of_decide_eq_true (show decide (1 ≤ x.size ∧ cntS x ≤ 8 ∧ 1 + 10 * cntS x ≤ x.size) = true from hro)
            unfold rdN
            rw [if_pos hro]
            omega
          have hxs := HX.out
          generalize rdN x = nx at *
          clear hro HE R11
          go_wp2_with fail
          refine HLF.out.mono ?_
          rintro e w12 ⟨rfl, rfl⟩
          go_wp2_with fail
          go_roundw
          case rel => exact ⟨j + 1, by omega, by go_num, X11.out, B11.out⟩
          case measure => simp [intOf]; omega
        | false =>
          have HE := hide (show rdE x = 4 by unfold rdE; rw [if_neg (by rw [hro]; decide)])
          rw [HE.out]
          clear hro HE R11
          go_wp2_with fail
          go_roundw
          case rel => exact ⟨j + 1, by omega, by go_num, X11.out, B11.out⟩
          case measure => simp [intOf]; omega
      · obtain rfl : j = 3 := by omega
        rw [show ((3 : Nat) : Int) = 3 from rfl]
        go_wp2_with fail
        refine (pread_nil _).mono ?_
        rintro e w8 ⟨rfl, rfl⟩
        go_wp2_with fail
        refine (wakes22 _).mono ?_
        rintro e w9 ⟨rfl, hb⟩
        have B9 := hide (BJ.out.trans (hb.mono BJ.out.size))
        clear hb XJ BJ
        go_wp2_with fail
        go_ret
        exact ⟨rfl, B9.out⟩
  | false =>
    rw [ht, if_pos (by decide)] at HWB
    rw [ht] at HRT
    go_wp2_with fail
    refine HWB.out.mono ?_
    rintro e w5' ⟨rfl, rfl⟩
    go_wp2_with fail
    refine HRT.out.mono ?_
    rintro e w6 ⟨rfl, hb⟩
    have B6 := hide (B5.out.trans (hb.mono B5.out.size))
    clear hb W5 Z5 B5 HWB HRT
    obtain ⟨d, hd⟩ : ∃ d : Nat, min T.size s.size = d := ⟨_, rfl⟩
    have hd1 : d ≤ T.size := by omega
    have hdF : (if (s.size : Int) < (T.size : Int) then (s.size : Int) else (T.size : Int)) = (d : Int) := by split <;> omega
    have hdI : min (T.size : Int) (s.size : Int) = (d : Int) := by omega
    have hdN : (if s.size < T.size then (s.size : Int) else (T.size : Int)) = (d : Int) := by split <;> omega
    have hsz := HSZ.out
    have htz := HTZ.out
    obtain ⟨f, hf⟩ : ∃ f : Nat, T.size - d = f := ⟨_, rfl⟩
    have hfI : (T.size : Int) - (d : Int) = (f : Int) := by omega
    have hf1 : f ≤ T.size := by omega
    have hf0 : (0 : Int) ≤ (f : Int) := by omega
    have hadd : ¬ (9223372036854775807 < T.size + s.size) := by omega
    have HXS := hide (show (T ++ s).size ≤ 1000000 ∧ (T.extract 0 f).size ≤ 1000000 ∧ s.size ≤ 1000000 from ⟨by rw [ByteArray.size_append]; omega, by rw [ByteArray.size_extract]; omega, by omega⟩)
    clear hd hf
    go_upto_region 11 with (fail)
    have X7 := hide (heap_new w6 (.cells #[.string s, .string (T ++ s), .string (T.extract 0 f)] 9))
    have B7 := hide (B6.out.alloc B6.out.size (.cells #[.string s, .string (T ++ s), .string (T.extract 0 f)] 9))
    clear B6 hadd hdF hdI hdN hfI hf0 hf1 hd1 hsz htz
    generalize w6.alloc (.cells #[.string s, .string (T ++ s), .string (T.extract 0 f)] 9) = w7 at *
    generalize w6.heap.size = g at *
    go_loopw [70] (fun i W => ∃ j : Nat, j ≤ 3 ∧ i = .int .i64 j ∧ W.heap[g]? = some (.cells #[.string s, .string (T ++ s), .string (T.extract 0 f)] 9 (0, 0)) ∧ Below w.heap.size w W) (fun i _ => 3 - (intOf i).toNat)
    case atStart => exact ⟨0, by omega, rfl, X7.out, B7.out⟩
    case round =>
      obtain ⟨j, hj, rfl, hx, hb⟩ := hrel
      have XJ := hide hx
      have BJ := hide hb
      clear hx hb X7 B7
      by_cases hlt : j < 3
      · have cz := cell_of_block XJ.out j
        obtain ⟨x, hx, hxs⟩ : ∃ x : ByteArray, (#[Value.string s, .string (T ++ s), .string (T.extract 0 f)] : Array Value)[j]? = some (.string x) ∧ x.size ≤ 1000000 := by
          have h0 : j = 0 ∨ j = 1 ∨ j = 2 := by omega
          rcases h0 with rfl | rfl | rfl
          · exact ⟨_, rfl, HXS.out.2.2⟩
          · exact ⟨_, rfl, HXS.out.1⟩
          · exact ⟨_, rfl, HXS.out.2.1⟩
        rw [hx] at cz
        have HX := hide hxs
        clear hx hxs
        go_wp2_with fail
        refine (read_any x _).mono ?_
        rintro e w8 ⟨rfl, hr, hb⟩
        obtain ⟨r, hrr⟩ : ∃ r, wr.heap.size = r := ⟨_, rfl⟩
        have HG := hide (show g < r from hrr ▸ heap_lt XJ.out)
        have HWR := hide (show w.heap.size ≤ r from hrr ▸ BJ.out.size)
        have X8 := hide ((hb.block _ (heap_lt XJ.out)).trans XJ.out)
        have B8 := hide (BJ.out.trans (hb.mono BJ.out.size))
        rw [hrr] at hr ⊢
        have R8 := hide hr
        clear hr hb XJ BJ cz hrr
        go_wp2_with fail
        refine (pread_any r r x HX.out w8 R8.out (Nat.le_refl _)).mono ?_
        rintro e w9 ⟨a9, c9, rfl, hl9, hr9, hb⟩
        have L9 := hide hl9
        have R9 := hide hr9
        have X9 := hide ((hb.block g HG.out).trans X8.out)
        have B9 := hide (B8.out.trans (hb.mono HWR.out))
        clear hl9 hr9 hb R8 X8 B8
        go_wp2_with fail
        refine (rpread x HX.out w9).mono ?_
        rintro e w10 ⟨a10, c10, rfl, hl10, hb⟩
        have M10 := hide hl10
        have L10 := hide (L9.out.below hb)
        have R10 := hide (R9.out.below hb)
        have X10 := hide ((hb.block _ (heap_lt X9.out)).trans X9.out)
        have B10 := hide (B9.out.trans (hb.mono B9.out.size))
        clear hl10 hb L9 R9 X9 B9
        have HRL := hide (show (rdL x).length ≤ 1000 by
          unfold rdL
          split
          · rename_i h
            have h1 := of_decide_eq_true (show decide (1 ≤ x.size ∧ cntS x ≤ 8 ∧ 1 + 10 * cntS x ≤ x.size) = true from h)
            rw [readL_len]; omega
          · exact Nat.zero_le _)
        go_wp2_with fail
        refine (same_eq (rdL x) HRL.out a9 a10 c9 c10 w10 L10.out M10.out).mono ?_
        rintro e w11 ⟨rfl, hb⟩
        have R11 := hide (R10.out.below hb)
        have X11 := hide ((hb.block _ (heap_lt X10.out)).trans X10.out)
        have B11 := hide (B10.out.trans (hb.mono B10.out.size))
        clear hb L10 M10 R10 X10 B10 HRL
        cases hro : readOk x with
        | true =>
          have HE := hide (show rdE x = 0 by unfold rdE; rw [if_pos hro])
          rw [HE.out]
          have HLF := hide (left_any r (rdS x) false w11 R11.out)
          rw [if_neg (by decide), rdS_size x hro] at HLF
          have hnb : 0 ≤ rdN x ∧ rdN x ≤ (x.size : Int) := by
            have h1 := of_decide_eq_true (show decide (1 ≤ x.size ∧ cntS x ≤ 8 ∧ 1 + 10 * cntS x ≤ x.size) = true from hro)
            unfold rdN
            rw [if_pos hro]
            omega
          have hxs := HX.out
          generalize rdN x = nx at *
          clear hro HE R11
          go_wp2_with fail
          refine HLF.out.mono ?_
          rintro e w12 ⟨rfl, rfl⟩
          go_wp2_with fail
          go_roundw
          case rel => exact ⟨j + 1, by omega, by go_num, X11.out, B11.out⟩
          case measure => simp [intOf]; omega
        | false =>
          have HE := hide (show rdE x = 4 by unfold rdE; rw [if_neg (by rw [hro]; decide)])
          rw [HE.out]
          clear hro HE R11
          go_wp2_with fail
          go_roundw
          case rel => exact ⟨j + 1, by omega, by go_num, X11.out, B11.out⟩
          case measure => simp [intOf]; omega
      · obtain rfl : j = 3 := by omega
        rw [show ((3 : Nat) : Int) = 3 from rfl]
        go_wp2_with fail
        refine (pread_nil _).mono ?_
        rintro e w8 ⟨rfl, rfl⟩
        go_wp2_with fail
        refine (wakes22 _).mono ?_
        rintro e w9 ⟨rfl, hb⟩
        have B9 := hide (BJ.out.trans (hb.mono BJ.out.size))
        clear hb XJ BJ
        go_wp2_with fail
        go_ret
        exact ⟨rfl, B9.out⟩

set_option maxRecDepth 100000 in
theorem postFields_lifted (os : Os) (started : os.Started) (H : Type) (enc : TypeId × Value → H) :
    ReturnsInHanded {} Try.checked os 4 .any (Rows.postFieldsSpec.pre6 enc Try.prog Try.f4 Rows.postFieldsRow.domain false) (Rows.postFieldsSpec.post enc Try.prog Try.f4 false true false false) := by
  refine returnsInHanded_of_change (C := Try.checked) own started (by kernel_rfl) Try.func4
    (ChangeSpec.witness6 (enc := enc) (C := Try.checked) false ⟨#[], #[.slice none 0 0, .string ⟨#[]⟩], []⟩ 8 (by kernel_rfl) (by kernel_rfl) (by kernel_rfl) (by kernel_rfl)) ?_
  intro W base args ds gs before hval0 hW _ _
  have hval : ∀ (j : Nat) t v, Try.f4.params[j]? = some t → args[j]? = some v → Value.okWide Try.prog W .any base t v := hval0
  have hW' := hW
  obtain ⟨p, q, hA0, hV, rfl, hfz, hnd⟩ := hW
  have hA : DataW.TrodAll enc Try.prog W 0 (fun _ => true) true Try.f4.params.toList args.toList ds p := hA0
  rw [Try.params4] at hA hval
  obtain ⟨v0, vs0, d0, ds0, p0, q0, hargs, rfl, rfl, h0, r0⟩ := trodAll_cons hA
  obtain ⟨v1, vs1, d1, ds1, p1, q1, rfl, rfl, rfl, h1, r1⟩ := trodAll_cons r0
  obtain ⟨rfl, rfl, rfl⟩ := trodAll_nil r1
  obtain rfl : args = #[v0, v1] := by cases args; simp_all
  obtain ⟨rfl, rfl⟩ := trodVars_none hV
  obtain ⟨a, L, cap, rfl, hc, h63, hin, hok⟩ := open_lines (hval 0 22 v0 rfl rfl) h0
  obtain ⟨s, rfl, rfl, rfl, w1⟩ := ChangeMaps.open_string Try.underlying9 (hval 1 9 v1 rfl rfl) h1
  have z1 : s.size ≤ 9223372036854775807 := w1
  clear hA0 hval0
  refine (postFields_walk L a cap hc h63 s z1 W hin hok).mono fun e W' ⟨he, hb⟩ => ?_
  subst he
  exact ⟨_, rfl, post_law laidOut (of_decide_eq_true (by kernel_rfl)) rfl rfl Try.underlying4 hW' ⟨rfl, rfl, rfl⟩ hb⟩

/-- THE STATEMENT -/
theorem postFields_holds : Rows.PostFieldsSaid :=
  OpenClaim.holds_of_wide 4 Try.f4 rfl rfl rfl rfl rfl rfl rfl ⟨rfl, rfl, rfl, rfl, rfl⟩ rfl rfl rfl rfl rfl (by kernel_rfl) Try.func4 (by kernel_rfl)
    (of_decide_eq_true (by kernel_rfl)) (by unfold Func.isWrapper; first | (rw [if_pos (by decide +kernel)]; kernel_rfl) | (rw [if_neg (by decide +kernel)]; exact ⟨rfl, rfl⟩))
    (fun os started H enc _ => postFields_lifted os started H enc)


end Go.Proofs.Ytjjldphbflbbdaa
