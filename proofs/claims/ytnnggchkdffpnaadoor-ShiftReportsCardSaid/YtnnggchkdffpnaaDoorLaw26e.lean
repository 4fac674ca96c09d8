/-
  Layer 26: ShiftReports: of each shift that is kept the report's lines are its totals' texts; of others there are none. No condition but what the row lists: the three tables read as the program's own text lays them.
-/
import Derived.Test.YtnnggchkdffpnaaDoorShL
import Derived.Test.YtnnggchkdffpnaaDoorActS
import Derived.Test.YtnnggchkdffpnaaDoorRShift
import Derived.Test.YtnnggchkdffpnaaDoorLaid26
import Derived.Test.YtnnggchkdffpnaaDoorTie
import Derived.Test.YtnnggchkdffpnaaDoorCards
import Derived.SevenTiedAt
import Derived.Deep.CutBlock
--import Derived.Test.Zdbg
namespace Go.Proofs.YtnnggchkdffpnaaDoor
set_option linter.unusedSimpArgs false
set_option linter.unusedVariables false
open Go.RowKit Go.WideShapes Go.ChangeShapes Go.ChangeAt Go.Deep
theorem open_in {M : ShM} (h : ShOk M) : inR (shOpen M) := by
  have h1 := h.nx
  unfold shOpen inR
  split <;> omega
theorem num_at {W : World} {nb t : Nat} {number on : Int} (h : W.heap[nb]? = some (.cells #[.int .i64 number, .int .i64 on, .int .i64 1, .int .i64 2, .int .i64 3, .int .i64 4, .int .i64 5] t (0, 0))) (h0 : inR number) (h1 : inR on) (k : Nat) (hk : k < 7) : ∃ nn : Int, inR nn ∧ W.cell? ⟨nb, k, none⟩ = some (.int .i64 nn) := by
  have hc : k = 0 ∨ k = 1 ∨ k = 2 ∨ k = 3 ∨ k = 4 ∨ k = 5 ∨ k = 6 := by omega
  rcases hc with rfl | rfl | rfl | rfl | rfl | rfl | rfl
  · exact ⟨number, h0, cell_of_block h 0⟩
  · exact ⟨on, h1, cell_of_block h 1⟩
  · exact ⟨1, by decide, cell_of_block h 2⟩
  · exact ⟨2, by decide, cell_of_block h 3⟩
  · exact ⟨3, by decide, cell_of_block h 4⟩
  · exact ⟨4, by decide, cell_of_block h 5⟩
  · exact ⟨5, by decide, cell_of_block h 6⟩
theorem str_at {W : World} {B g ob c t : Nat} {LT : List ByteArray} (hl : LT.length = 8) (h : W.ownsRow B 9 1 (.slice (some ⟨g, 0, none⟩) 8 c) 8 (LT.map Value.string)) (h2 : W.heap[ob]? = some (.cells ((LT.map Value.string).toArray) t (0, 0))) (j : Nat) (hj : j < 8) :
    ∃ x : ByteArray, W.cell? ⟨g, j, none⟩ = some (.string x) ∧ W.cell? ⟨ob, j, none⟩ = some (.string x) := by
  have e : (LT.map Value.string)[j]? = some (.string (LT.getD j ⟨#[]⟩)) := by
    rw [List.getElem?_map, List.getElem?_eq_getElem (by omega)]
    simp [List.getD, show j < LT.length by omega]
  refine ⟨LT.getD j ⟨#[]⟩, ?_, ?_⟩
  · have hc := h.cells (g := g) rfl j _ e
    rw [Go.WideShapes.add_plain, Nat.zero_add] at hc
    exact hc
  · rw [cell_of_block h2, List.getElem?_toArray]
    exact e
set_option maxRecDepth 100000 in
set_option maxHeartbeats 16000000 in
theorem shiftReports_walk (v0 : Value) (number : Int) (n1 : -9223372036854775808 ≤ number) (n2 : number ≤ 9223372036854775807) (W0 : World) (hz : ActsS W0 v0) (htab : Tab W0) :
    Calls Tryd.prog 3 #[v0, .int .i64 number] W0 fun e w' => e = .returned (.bool true) ∧ Below W0.heap.size W0 w' := by
  obtain ⟨al, AL, acap, rfl, hcap, h63, hin, hok⟩ := hz
  generalize W0 = w at *
  obtain ⟨n, hn⟩ : ∃ n : Nat, min AL.length 40 = n := ⟨_, rfl⟩
  have hmF : (if (40 : Int) < (AL.length : Int) then (40 : Int) else (AL.length : Int)) = (n : Int) := by split <;> omega
  have hmI : min (AL.length : Int) 40 = (n : Int) := by omega
  have hn9 : n ≤ 40 := by omega
  have hnl : n ≤ AL.length := by omega
  have hcI : (n : Int) ≤ (acap : Int) := by omega
  have HIN := hide hin
  have HOK := hide hok
  have HT := hide htab
  have HNB := hide (show inR number from ⟨n1, n2⟩)
  clear hin hok hn htab n1 n2
  obtain ⟨q, hq⟩ : ∃ q, w.heap.size = q := ⟨_, rfl⟩
  have HQ := hide hq
  clear hq
  go_enter Tryd.func3, Tryd.ntmps3
  go_wp2_with fail
  refine (shnew_ok 3 (by omega) (by omega) w).mono ?_
  rintro e w1 ⟨rfl, h, hb⟩
  rw [HQ.out] at h hb ⊢
  have S1 := hide h
  have B1 := hide hb
  clear h hb
  obtain ⟨p, hp⟩ : ∃ p, q = p := ⟨_, rfl⟩
  rw [show ShIs w1 q q = ShIs w1 q p by rw [hp]] at S1
  simp only [show (Value.pointer (some ⟨q, 0, none⟩)) = Value.pointer (some ⟨p, 0, none⟩) by rw [hp]]
  clear hp
  go_wp2_with fail
  refine (wakes26 w1).mono ?_
  rintro e w2 ⟨rfl, hb⟩
  have S2 := hide (S1.out.below hb)
  have B2 := hide (B1.out.trans (hb.mono (by have := S1.out.lt; have := S1.out.low; omega)))
  clear hb S1 B1
  go_wp2_with fail
  clear hmF hmI
  go_loopw [42] (fun i W => ∃ (j : Nat) (M : ShM) (V : Value), j ≤ n ∧ i = .int .i64 j ∧ ShIs W q p M V ∧ Below q w W) (fun i _ => n - (intOf i).toNat)
  case atStart => exact ⟨0, _, _, by omega, rfl, S2.out, B2.out⟩
  case round =>
  obtain ⟨j, M, V, hj, rfl, hs, hb⟩ := hrel
  have SS := hide hs
  have BW := hide hb
  clear hs hb S2 B2
  by_cases hlt : j < n
  · obtain ⟨b, off, rfl, hbl, c0, c1, c2⟩ := (HIN.out.below (show Below w.heap.size w wr by rw [HQ.out]; exact BW.out)) j (by omega)
    have HOX := hide (HOK.out (AL.getD j actS0) (by have : j < AL.length := by omega
                                                    simp [List.getD, this]))
    generalize AL.getD j actS0 = x at *
    obtain ⟨xd, xk, xa⟩ := x
    dsimp only at *
    obtain ⟨ob, hob⟩ : ∃ ob, ob = (Obj.cells #[.int .i64 xd, .int .u8 xk, .int .i64 xa] 29) := ⟨_, rfl⟩
    have hal := (Below.refl wr.heap.size wr).alloc (Nat.le_refl _) ob
    have HSZ := hide (show q ≤ wr.heap.size by have := SS.out.lt; have := SS.out.low; omega)
    have X1 := hide (show (wr.alloc ob).heap[wr.heap.size]? = some (.cells #[.int .i64 xd, .int .u8 xk, .int .i64 xa] 29 (0, 0)) by rw [heap_new, hob])
    have S1 := hide (SS.out.below hal)
    have B1 := hide (BW.out.trans (hal.mono HSZ.out))
    go_upto_region 7 with (fail)
    rw [← hob]
    clear hal SS BW hbl c0 c1 c2
    have HSZ1 := hide (show q ≤ (wr.alloc ob).heap.size by have := S1.out.lt; have := S1.out.low; omega)
    generalize wr.alloc ob = w4 at *
    generalize wr.heap.size = xb at *
    clear hob ob HSZ
    have d0 := cell_of_block X1.out 0
    obtain ⟨hd0, hk0, ha0⟩ := HOX.out
    dsimp only at hd0 hk0 ha0
    have HAD := hide (fun W hW => shadd_any xk xa hk0 ha0 q p M V W hW)
    unfold inR at hd0
    obtain ⟨u, huF, huI, hu0⟩ : ∃ u : Int, (if 0 < xd then xd else 0) = u ∧ max 0 xd = u ∧ 0 ≤ u := ⟨max 0 xd, by split <;> omega, rfl, by omega⟩
    obtain ⟨r, hr1, hr2, hr3⟩ : ∃ r : Int, u.tmod 5 = r ∧ 0 ≤ r ∧ r ≤ 4 := ⟨_, rfl, by rw [Int.tmod_eq_emod_of_nonneg hu0]; omega, by rw [Int.tmod_eq_emod_of_nonneg hu0]; omega⟩
    have HJN := hide hlt
    go_upto_block 2 with (fail)
    clear huF huI hr1 hu0 hd0 hk0 ha0 d0
    have hbd : IntKind.i64.wrap ((j : Int) + 1) = (j : Int) + 1 := by rw [IntKind.wrap_i64]; omega
    by_cases r3 : r = 3
    · subst r3
      go_wp2_with fail
      refine (shstart_any q p M V w4 S1.out).mono ?_
      rintro e w5 ⟨rfl, hs5, hk5⟩
      have S5 := hide hs5
      have B5 := hide (hk5.base B1.out (fun z hz => by rw [List.mem_singleton.1 hz]; exact S1.out.low) HSZ1.out)
      clear hs5 hk5 S1 B1 X1
      go_wp2_with fail
      go_roundw
      case rel => exact ⟨j + 1, _, _, HJN.out, by go_num, S5.out, B5.out⟩
      case measure => have := HJN.out; simp [intOf]; omega
    by_cases r4 : r = 4
    · subst r4
      go_wp2_with fail
      refine (shend_any q p M V w4 HSZ1.out S1.out).mono ?_
      rintro e w5 ⟨V', rfl, hs5, hk5, -⟩
      have S5 := hide hs5
      have B5 := hide (hk5.base B1.out (fun z hz => by
        rcases List.mem_cons.1 hz with rfl | hz
        · exact S1.out.low
        · exact (S1.out.row.lt z (Option.mem_toList.1 hz)).1) HSZ1.out)
      clear hs5 hk5 S1 B1 X1
      go_wp2_with fail
      go_roundw
      case rel => exact ⟨j + 1, _, _, HJN.out, by go_num, S5.out, B5.out⟩
      case measure => have := HJN.out; simp [intOf]; omega
    · have r3b : (r == 3) = false := beq_eq_false_iff_ne.mpr r3
      have r4b : (r == 4) = false := beq_eq_false_iff_ne.mpr r4
      have d1 := cell_of_block X1.out 1
      have d2 := cell_of_block X1.out 2
      clear r3 r4
      go_wp2_with fail
      refine (HAD.out w4 S1.out).mono ?_
      rintro e w5 ⟨rfl, hs5, hk5⟩
      have S5 := hide hs5
      have B5 := hide (hk5.base B1.out (fun z hz => by rw [List.mem_singleton.1 hz]; exact S1.out.low) HSZ1.out)
      clear hs5 hk5 S1 B1 X1 d1 d2
      go_wp2_with fail
      go_roundw
      case rel => exact ⟨j + 1, _, _, HJN.out, by go_num, S5.out, B5.out⟩
      case measure => have := HJN.out; simp [intOf]; omega
  · obtain rfl : j = n := by omega
    clear hlt HIN HOK
    go_wp2_with fail
    refine (shopen_any q p M V _ SS.out).mono ?_
    rintro e w3 ⟨rfl, rfl⟩
    have HON := hide (open_in SS.out.ok)
    have HSZ := hide (show q ≤ wr.heap.size by have := SS.out.lt; have := SS.out.low; omega)
    obtain ⟨on, hon⟩ : ∃ on, shOpen M = on := ⟨_, rfl⟩
    rw [hon] at HON ⊢
    have HONQ := hide hon
    clear hon
    have hal := (Below.refl wr.heap.size wr).alloc (Nat.le_refl _) (.cells #[.int .i64 number, .int .i64 on, .int .i64 1, .int .i64 2, .int .i64 3, .int .i64 4, .int .i64 5] 3)
    have N4 := hide (heap_new wr (.cells #[.int .i64 number, .int .i64 on, .int .i64 1, .int .i64 2, .int .i64 3, .int .i64 4, .int .i64 5] 3))
    have S4 := hide (SS.out.below hal)
    have B4 := hide (BW.out.trans (hal.mono HSZ.out))
    clear hal SS BW
    go_wp2_with fail
    generalize wr.alloc (.cells #[.int .i64 number, .int .i64 on, .int .i64 1, .int .i64 2, .int .i64 3, .int .i64 4, .int .i64 5] 3) = w4 at *
    generalize wr.heap.size = nb at *
    have HBASE := hide (fun W (hW : Below w4.heap.size w4 W) => (show W.heap[nb]? = some (.cells #[.int .i64 number, .int .i64 on, .int .i64 1, .int .i64 2, .int .i64 3, .int .i64 4, .int .i64 5] 3 (0, 0)) ∧ ShIs W q p M V ∧ Below q w W ∧ Tab W from by
      have h3 : Below q w W := B4.out.trans (hW.mono (by have := S4.out.lt; have := S4.out.low; omega))
      exact ⟨(hW.block _ (heap_lt N4.out)).trans N4.out, S4.out.below hW, h3, tab_below HT.out (by rw [HQ.out]; exact h3)⟩))
    clear N4 S4 B4
    go_loopw [70] (fun i W => ∃ k : Nat, k ≤ 7 ∧ i = .int .i64 k ∧ Below w4.heap.size w4 W) (fun i _ => 7 - (intOf i).toNat)
    case atStart => exact ⟨0, by omega, rfl, Below.refl _ _⟩
    case round =>
    obtain ⟨k, hk, rfl, hb⟩ := hrel
    have BK := hide hb
    clear hb
    by_cases hlt : k < 7
    · have HKL := hide hlt
      obtain ⟨hnb, hsh, hbw, htw⟩ := HBASE.out _ BK.out
      obtain ⟨nn, hnn, hcell⟩ := num_at hnb HNB.out HON.out k hlt
      have S5 := hide hsh
      have T5 := hide htw
      have HNN := hide hnn
      have hki : (k : Int) < 7 := by omega
      have hbd : IntKind.i64.wrap ((k : Int) + 1) = (k : Int) + 1 := by rw [IntKind.wrap_i64]; omega
      clear hnb hsh hbw htw hnn hlt
      go_wp2_with fail
      refine (lines_any q p M V nn HNN.out _ S5.out T5.out).mono ?_
      intro e w5 hl
      clear hcell
      rcases hl with ⟨hno, rfl, hb⟩ | ⟨t, g, c, hso, rfl, hrow, hb⟩
      · have HNO := hide hno
        have B5 := hide (BK.out.trans (hb.mono BK.out.size))
        have S6 := hide (S5.out.below hb)
        clear hno hb
        go_wp2_with fail
        refine (shtot_any nn HNN.out q p M V _ S6.out).mono ?_
        rintro e w6 ⟨rfl, hb⟩
        have B6 := hide (B5.out.trans (hb.mono B5.out.size))
        clear hb
        rw [HNO.out]
        simp only [Option.getD_none, Option.isSome_none]
        unfold totV tot0
        dsimp only
        go_upto_region 19 with (refine rw_store rfl 34 (.tmp 12) (.tmp 81) rfl w6.heap.size rfl (#[.int .i64 0, .int .i64 0, .int .i64 0, .int .i64 0, .int .i64 0, .int .i64 0] : Array Value) rfl _ (heap_new w6 _) (by kernel_rfl) rfl (by simp [Value.oneCell']) ?_)
        have hal := (Below.refl w6.heap.size w6).alloc (Nat.le_refl _) (.cells #[.int .i64 0, .int .i64 0, .int .i64 0, .int .i64 0, .int .i64 0, .int .i64 0] 34)
        have hbb := setRow_below (hal.trans (Below.refl _ _)) (Nat.le_refl _) hal.size (#[.int .i64 0, .int .i64 0, .int .i64 0, .int .i64 0, .int .i64 0, .int .i64 0] : Array Value)
        have B7 := hide (B6.out.trans (hbb.mono B6.out.size))
        clear hal hbb
        generalize (w6.alloc (.cells #[.int .i64 0, .int .i64 0, .int .i64 0, .int .i64 0, .int .i64 0, .int .i64 0] 34)).setRow w6.heap.size (#[.int .i64 0, .int .i64 0, .int .i64 0, .int .i64 0, .int .i64 0, .int .i64 0] : Array Value) = w7 at *
        go_wp2_with fail
        go_roundw
        case rel => exact ⟨k + 1, HKL.out, by go_num, B7.out⟩
        case measure => have := HKL.out; simp [intOf]; omega
      · have HSO := hide hso
        have HTF := hide (tot_fields (shTot_ok S5.out.ok hso))
        have B5 := hide (BK.out.trans (hb.mono BK.out.size))
        have S6 := hide (S5.out.below hb)
        have R5 := hide hrow
        clear hso hb hrow
        obtain ⟨xc, xs, xv, xr, xi, xo⟩ := t
        dsimp only at HTF
        go_wp2_with fail
        refine (shtot_any nn HNN.out q p M V _ S6.out).mono ?_
        rintro e w6 ⟨rfl, hb⟩
        have B6 := hide (B5.out.trans (hb.mono B5.out.size))
        have R6 := hide (owns_below R5.out hb)
        have S7 := hide (S6.out.below hb)
        clear hb R5
        rw [HSO.out]
        simp only [Option.getD_some, Option.isSome_some]
        unfold totV
        dsimp only
        go_upto_region 19 with (refine rw_store rfl 34 (.tmp 12) (.tmp 81) rfl w6.heap.size rfl (#[.int .i64 xc, .int .i64 xs, .int .i64 xv, .int .i64 xr, .int .i64 xi, .int .i64 xo] : Array Value) rfl _ (heap_new w6 _) (by kernel_rfl) rfl (by simp [Value.oneCell']) ?_)
        have XB := hide (heap_new w6 (.cells #[.int .i64 0, .int .i64 0, .int .i64 0, .int .i64 0, .int .i64 0, .int .i64 0] 34))
        have hal := (Below.refl w6.heap.size w6).alloc (Nat.le_refl _) (.cells #[.int .i64 0, .int .i64 0, .int .i64 0, .int .i64 0, .int .i64 0, .int .i64 0] 34)
        have hbb := setRow_below (hal.trans (Below.refl _ _)) (Nat.le_refl _) hal.size (#[.int .i64 xc, .int .i64 xs, .int .i64 xv, .int .i64 xr, .int .i64 xi, .int .i64 xo] : Array Value)
        have X7 := hide (setRow_same (cs := (#[.int .i64 xc, .int .i64 xs, .int .i64 xv, .int .i64 xr, .int .i64 xi, .int .i64 xo] : Array Value)) XB.out)
        have R7 := hide (owns_below R6.out hbb)
        have S8 := hide (S7.out.below hbb)
        have B7 := hide (B6.out.trans (hbb.mono B6.out.size))
        clear hal hbb XB S6 S7 R6 B6 B5
        generalize (w6.alloc (.cells #[.int .i64 0, .int .i64 0, .int .i64 0, .int .i64 0, .int .i64 0, .int .i64 0] 34)).setRow w6.heap.size (#[.int .i64 xc, .int .i64 xs, .int .i64 xv, .int .i64 xr, .int .i64 xi, .int .i64 xo] : Array Value) = w7 at *
        generalize w6.heap.size = tb at *
        have HHOW := hide (show ∀ b : Bool, (nn = on ↔ b = true) → howT M nn = if b = true then (⟨#[111, 112, 101, 110]⟩ : ByteArray) else (⟨#[99, 108, 111, 115, 101, 100]⟩ : ByteArray) from fun b hb => by
          unfold howT
          rw [HONQ.out]
          cases b
          · rw [if_neg (fun e => by have := hb.1 e; cases this)]; rfl
          · rw [if_pos (hb.2 rfl)]; rfl)
        go_wp2_with fail
        refine (shopen_any q p M V _ S8.out).mono ?_
        rintro e w8 ⟨rfl, rfl⟩
        rw [HONQ.out]
        go_upto_if 91 with (fail)
        go_cut [14] from 83 to 160 (fun s14 W => s14 = .string (howT M nn) ∧ W = w7)
        case first =>
          by_cases hns : nn = on
          · have g1 : (nn == on) = true := beq_iff_eq.mpr hns
            have HH := hide (HHOW.out true ⟨fun _ => rfl, fun _ => hns⟩)
            clear hns
            go_wp2_with fail
            go_meet
            exact ⟨by rw [HH.out]; rfl, rfl⟩
          · have g1 : (nn == on) = false := beq_eq_false_iff_ne.mpr hns
            have HH := hide (HHOW.out false ⟨fun e => absurd e hns, fun e => by cases e⟩)
            clear hns
            go_wp2_with fail
            go_meet
            exact ⟨by rw [HH.out]; rfl, rfl⟩
        case rest =>
        obtain ⟨rfl, hwc⟩ := hcut
        subst hwc
        obtain ⟨how, hhow, hhz⟩ : ∃ how, howT M nn = how ∧ how.size ≤ 8 := ⟨_, rfl, by unfold howT; split <;> decide⟩
        have HHZ := hide hhz
        rw [hhow] at R7 ⊢
        clear hhow HHOW hhz
        have HOF := hide (fun W => of_any xc xs xv xr xi xo W)
        have HTI := hide (fun W => rtill_any xc xs xv xr xi xo HTF.out.2.1 HTF.out.2.2.1 HTF.out.2.2.2.1 HTF.out.2.2.2.2.1 HTF.out.2.2.2.2.2 W)
        unfold totA at HOF HTI
        go_wp2_with (refine rw_load rfl 34 (.tmp 12) rfl tb rfl 34 (#[.int .i64 xc, .int .i64 xs, .int .i64 xv, .int .i64 xr, .int .i64 xi, .int .i64 xo] : Array Value) (0, 0) _ X7.out Tryd.underlying34 rfl (by kernel_rfl) ?_)
        refine (HOF.out _).mono ?_
        rintro e w9 ⟨rfl, hb⟩
        have X9 := hide ((hb.block _ (heap_lt X7.out)).trans X7.out)
        have R9 := hide (owns_below R7.out hb)
        have B9 := hide (B7.out.trans (hb.mono B7.out.size))
        clear hb X7 R7 B7 HOF S8
        go_upto_region 26 with (refine rw_store rfl 47 (.tmp 15) (.tmp 93) rfl w9.heap.size rfl (#[.int .i64 xc, .int .i64 xs, .int .i64 xv, .int .i64 xr, .int .i64 xi, .int .i64 xo] : Array Value) rfl _ (heap_new w9 _) (by kernel_rfl) rfl (by simp [Value.oneCell']) ?_)
        have XB := hide (heap_new w9 (.cells #[.int .i64 0, .int .i64 0, .int .i64 0, .int .i64 0, .int .i64 0, .int .i64 0] 47))
        have hal := (Below.refl w9.heap.size w9).alloc (Nat.le_refl _) (.cells #[.int .i64 0, .int .i64 0, .int .i64 0, .int .i64 0, .int .i64 0, .int .i64 0] 47)
        have hbb := setRow_below (hal.trans (Below.refl _ _)) (Nat.le_refl _) hal.size (#[.int .i64 xc, .int .i64 xs, .int .i64 xv, .int .i64 xr, .int .i64 xi, .int .i64 xo] : Array Value)
        have D10 := hide (setRow_same (cs := (#[.int .i64 xc, .int .i64 xs, .int .i64 xv, .int .i64 xr, .int .i64 xi, .int .i64 xo] : Array Value)) XB.out)
        have X10 := hide ((hbb.block _ (heap_lt X9.out)).trans X9.out)
        have R10 := hide (owns_below R9.out hbb)
        have B10 := hide (B9.out.trans (hbb.mono B9.out.size))
        clear hal hbb XB X9 R9 B9
        generalize (w9.alloc (.cells #[.int .i64 0, .int .i64 0, .int .i64 0, .int .i64 0, .int .i64 0, .int .i64 0] 47)).setRow w9.heap.size (#[.int .i64 xc, .int .i64 xs, .int .i64 xv, .int .i64 xr, .int .i64 xi, .int .i64 xo] : Array Value) = w10 at *
        generalize w9.heap.size = xb at *
        have HLA := hide (show lastT ⟨xc, xs, xv, xr, xi, xo⟩ = if sumE (xs + xi - xv - xr - xo) = 0 then (⟨#[116, 105, 108, 108, 32]⟩ : ByteArray) ++ sb (cText (sumV (xs + xi - xv - xr - xo))) else (⟨#[116, 105, 108, 108, 32, 111, 118, 101, 114]⟩ : ByteArray) from rfl)
        have HLQ := hide (show linesT nn how ⟨xc, xs, xv, xr, xi, xo⟩ = [((⟨#[115, 104, 105, 102, 116, 32]⟩ : ByteArray) ++ sb (Lib.itoa nn)) ++ (⟨#[32]⟩ : ByteArray) ++ how, (⟨#[99, 111, 117, 110, 116, 32]⟩ : ByteArray) ++ sb (Lib.itoa xc), (⟨#[115, 97, 108, 101, 115, 32]⟩ : ByteArray) ++ sb (cText xs), (⟨#[118, 111, 105, 100, 115, 32]⟩ : ByteArray) ++ sb (cText xv), (⟨#[114, 101, 102, 117, 110, 100, 115, 32]⟩ : ByteArray) ++ sb (cText xr), (⟨#[105, 110, 115, 32]⟩ : ByteArray) ++ sb (cText xi), (⟨#[111, 117, 116, 32]⟩ : ByteArray) ++ sb (cText xo), lastT ⟨xc, xs, xv, xr, xi, xo⟩] from rfl)
        have HLL := hide (show (linesT nn how ⟨xc, xs, xv, xr, xi, xo⟩).length = 8 from rfl)
        have HSI := hide (show inR (sumV (xs + xi - xv - xr - xo)) from by unfold sumV; split; assumption; exact ⟨by decide, by decide⟩)
        obtain ⟨LT, hLT⟩ : ∃ LT, linesT nn how ⟨xc, xs, xv, xr, xi, xo⟩ = LT := ⟨_, rfl⟩
        rw [hLT] at R10 HLQ HLL
        clear hLT
        generalize lastT ⟨xc, xs, xv, xr, xi, xo⟩ = la at *
        generalize sumE (xs + xi - xv - xr - xo) = ze at *
        generalize sumV (xs + xi - xv - xr - xo) = zv at *
        go_wp2_with (refine rw_load rfl 47 (.tmp 15) rfl xb rfl 47 (#[.int .i64 xc, .int .i64 xs, .int .i64 xv, .int .i64 xr, .int .i64 xi, .int .i64 xo] : Array Value) (0, 0) _ D10.out Tryd.underlying47 rfl (by kernel_rfl) ?_)
        refine (HTI.out _).mono ?_
        rintro e w11 ⟨rfl, hb⟩
        have X11 := hide ((hb.block _ (heap_lt X10.out)).trans X10.out)
        have D11 := hide ((hb.block _ (heap_lt D10.out)).trans D10.out)
        have R11 := hide (owns_below R10.out hb)
        have B11 := hide (B10.out.trans (hb.mono B10.out.size))
        clear hb X10 D10 R10 B10 HTI
        go_upto_if 100 with (fail)
        go_cut [18] from 94 to 160 (fun s18 W => s18 = .string la ∧ Below w11.heap.size w11 W)
        case first =>
          by_cases hz : ze = 0
          · have g1 : (ze == 0) = true := beq_iff_eq.mpr hz
            have HLA2 := hide (HLA.out.trans (if_pos hz))
            have HTX := hide (fun W => rtext_any zv HSI.out W)
            have htz := cText_sz zv HSI.out
            obtain ⟨tx, htx⟩ : ∃ tx, sb (cText zv) = tx := ⟨_, rfl⟩
            rw [htx] at HTX HLA2 htz
            have q1 : ¬ 9223372036854775807 < 5 + tx.size := by omega
            clear hz htx htz
            go_wp2_with fail
            refine (HTX.out _).mono ?_
            rintro e w12 ⟨rfl, hb⟩
            go_wp2_with fail
            go_meet
            exact ⟨by rw [HLA2.out], hb⟩
          · have g1 : (ze == 0) = false := beq_eq_false_iff_ne.mpr hz
            have HLA2 := hide (HLA.out.trans (if_neg hz))
            clear hz
            go_wp2_with fail
            go_meet
            exact ⟨by rw [HLA2.out], Below.refl _ _⟩
        case rest =>
        obtain ⟨rfl, hb⟩ := hcut
        have X12 := hide ((hb.block _ (heap_lt X11.out)).trans X11.out)
        have D12 := hide ((hb.block _ (heap_lt D11.out)).trans D11.out)
        have R12 := hide (owns_below R11.out hb)
        have B12 := hide (B11.out.trans (hb.mono B11.out.size))
        clear hb X11 D11 R11 B11 HLA
        have HC0 := hide (fun W (hW : Tab W) => itoa_any nn HNN.out W hW)
        have HC1 := hide (fun W (hW : Tab W) => itoa_any xc HTF.out.1 W hW)
        have HC2 := hide (fun W (hW : Tab W) => rtext_any xs HTF.out.2.1 W)
        have HC3 := hide (fun W (hW : Tab W) => rtext_any xv HTF.out.2.2.1 W)
        have HC4 := hide (fun W (hW : Tab W) => rtext_any xr HTF.out.2.2.2.1 W)
        have HC5 := hide (fun W (hW : Tab W) => rtext_any xi HTF.out.2.2.2.2.1 W)
        have HC6 := hide (fun W (hW : Tab W) => rtext_any xo HTF.out.2.2.2.2.2 W)
        have hz0 := itoa_sz nn HNN.out
        have hz1 := itoa_sz xc HTF.out.1
        have hz2 := cText_sz xs HTF.out.2.1
        have hz3 := cText_sz xv HTF.out.2.2.1
        have hz4 := cText_sz xr HTF.out.2.2.2.1
        have hz5 := cText_sz xi HTF.out.2.2.2.2.1
        have hz6 := cText_sz xo HTF.out.2.2.2.2.2
        generalize sb (Lib.itoa nn) = I1 at *
        generalize sb (Lib.itoa xc) = I2 at *
        generalize hx0 : sb (cText xs) = tx0 at *
        generalize hx1 : sb (cText xv) = tx1 at *
        generalize hx2 : sb (cText xr) = tx2 at *
        generalize hx3 : sb (cText xi) = tx3 at *
        generalize hx4 : sb (cText xo) = tx4 at *
        have hhz := HHZ.out
        have q0 : ¬ 9223372036854775807 < 6 + I1.size := by omega
        have q1 : ¬ 9223372036854775807 < 6 + I1.size + 1 := by omega
        have q2 : ¬ 9223372036854775807 < 6 + I1.size + 1 + how.size := by omega
        have q3 : ¬ 9223372036854775807 < 6 + I2.size := by omega
        have q4 : ¬ 9223372036854775807 < 6 + tx0.size := by omega
        have q5 : ¬ 9223372036854775807 < 6 + tx1.size := by omega
        have q6 : ¬ 9223372036854775807 < 8 + tx2.size := by omega
        have q7 : ¬ 9223372036854775807 < 4 + tx3.size := by omega
        have q8 : ¬ 9223372036854775807 < 4 + tx4.size := by omega
        clear hx0 hx1 hx2 hx3 hx4 hhz hz0 hz1 hz2 hz3 hz4 hz5 hz6
        go_upto_region 30 with (fail)
        obtain ⟨wq, hwq⟩ : ∃ wq, wq = wc := ⟨_, rfl⟩
        rw [← hwq] at X12 D12 R12 B12 ⊢
        clear hwq
        have X0 := hide (show wq.drew.heap[tb]? = _ from X12.out)
        have D0 := hide (show wq.drew.heap[xb]? = _ from D12.out)
        have R0 := hide (show wq.drew.ownsRow wr.heap.size 9 1 _ _ _ from R12.out)
        have BW0 := hide (show Below w4.heap.size w4 wq.drew from B12.out.drew)
        have B0 := hide (show Below w.heap.size w wq.drew from by rw [HQ.out]; exact (HBASE.out _ BW0.out).2.2.1)
        have BU0 := hide (Below.refl wq.drew.heap.size wq.drew)
        clear X12 D12 R12 B12
        refine wp_region_held_drew (S := (fun W => W.heap[tb]? = some (.cells #[.int .i64 xc, .int .i64 xs, .int .i64 xv, .int .i64 xr, .int .i64 xi, .int .i64 xo] 34 (0, 0)) ∧ W.heap[xb]? = some (.cells #[.int .i64 xc, .int .i64 xs, .int .i64 xv, .int .i64 xr, .int .i64 xi, .int .i64 xo] 47 (0, 0)))) (by kernel_rfl) (⟨X0.out, D0.out⟩) (fun hHeld => ?_)
        generalize wq.drew = v0 at *
        refine wpAnyH_take (i := 0) (oi := { dst := some 104, op := Op.move (Operand.tmp 10), type := 3, pos := "law.go:215", after := #[], guard := none }) (v := ?_) rfl (by kernel_rfl) (by kernel_rfl) (by kernel_rfl) (fun _ _ _ h => h) (Or.inl ⟨by kernel_rfl, ?_⟩) hHeld ?_
        rotate_left
        · (intro w hSw; (try dsimp only at hSw); have e0 := cell_of_block hSw.1 0; have g0 := cell_of_block hSw.2 0; have g1 := cell_of_block hSw.2 1; have g2 := cell_of_block hSw.2 2; have g3 := cell_of_block hSw.2 3; have g4 := cell_of_block hSw.2 4; have g5 := cell_of_block hSw.2 5; go_simp); try with_reducible rfl
        try simp only [Act.put, List.setIfInBounds_toArray, List.set_cons_zero, List.set_cons_succ]
        refine wpAnyH_take (i := 4) (oi := { dst := some 108, op := Op.move (Operand.tmp 14), type := 9, pos := "law.go:215", after := #[], guard := none }) (v := ?_) rfl (by kernel_rfl) (by kernel_rfl) (by kernel_rfl) (fun _ _ _ h => h) (Or.inl ⟨by kernel_rfl, ?_⟩) hHeld ?_
        rotate_left
        · (intro w hSw; (try dsimp only at hSw); have e0 := cell_of_block hSw.1 0; have g0 := cell_of_block hSw.2 0; have g1 := cell_of_block hSw.2 1; have g2 := cell_of_block hSw.2 2; have g3 := cell_of_block hSw.2 3; have g4 := cell_of_block hSw.2 4; have g5 := cell_of_block hSw.2 5; go_simp); try with_reducible rfl
        try simp only [Act.put, List.setIfInBounds_toArray, List.set_cons_zero, List.set_cons_succ]
        refine wpAnyH_take (i := 6) (oi := { dst := some 110, op := Op.fieldAddr 34 (Operand.tmp 12) 0, type := 0, pos := "law.go:215", after := #[], guard := none }) (v := ?_) rfl (by kernel_rfl) (by kernel_rfl) (by kernel_rfl) (fun _ _ _ h => h) (Or.inl ⟨by kernel_rfl, ?_⟩) hHeld ?_
        rotate_left
        · (intro w hSw; (try dsimp only at hSw); have e0 := cell_of_block hSw.1 0; have g0 := cell_of_block hSw.2 0; have g1 := cell_of_block hSw.2 1; have g2 := cell_of_block hSw.2 2; have g3 := cell_of_block hSw.2 3; have g4 := cell_of_block hSw.2 4; have g5 := cell_of_block hSw.2 5; go_simp); try with_reducible rfl
        try simp only [Act.put, List.setIfInBounds_toArray, List.set_cons_zero, List.set_cons_succ]
        refine wpAnyH_take (i := 7) (oi := { dst := some 111, op := Op.load 3 (Operand.tmp 110), type := 3, pos := "law.go:215", after := #[{ on := 6, ground := Ground.data }], guard := none }) (v := ?_) rfl (by kernel_rfl) (by kernel_rfl) (by kernel_rfl) (fun _ _ _ h => h) (Or.inl ⟨by kernel_rfl, ?_⟩) hHeld ?_
        rotate_left
        · (intro w hSw; (try dsimp only at hSw); have e0 := cell_of_block hSw.1 0; have g0 := cell_of_block hSw.2 0; have g1 := cell_of_block hSw.2 1; have g2 := cell_of_block hSw.2 2; have g3 := cell_of_block hSw.2 3; have g4 := cell_of_block hSw.2 4; have g5 := cell_of_block hSw.2 5; go_simp); try with_reducible rfl
        try simp only [Act.put, List.setIfInBounds_toArray, List.set_cons_zero, List.set_cons_succ]
        refine wpAnyH_take (i := 10) (oi := { dst := some 114, op := Op.fieldAddr 47 (Operand.tmp 15) 1, type := 0, pos := "law.go:215", after := #[], guard := none }) (v := ?_) rfl (by kernel_rfl) (by kernel_rfl) (by kernel_rfl) (fun _ _ _ h => h) (Or.inl ⟨by kernel_rfl, ?_⟩) hHeld ?_
        rotate_left
        · (intro w hSw; (try dsimp only at hSw); have e0 := cell_of_block hSw.1 0; have g0 := cell_of_block hSw.2 0; have g1 := cell_of_block hSw.2 1; have g2 := cell_of_block hSw.2 2; have g3 := cell_of_block hSw.2 3; have g4 := cell_of_block hSw.2 4; have g5 := cell_of_block hSw.2 5; go_simp); try with_reducible rfl
        try simp only [Act.put, List.setIfInBounds_toArray, List.set_cons_zero, List.set_cons_succ]
        refine wpAnyH_take (i := 11) (oi := { dst := some 115, op := Op.indexAddr 45 (Operand.tmp 114) (Operand.const (Value.int IntKind.i64 0)), type := 0, pos := "law.go:215", after := #[{ on := 10, ground := Ground.data }], guard := none }) (v := ?_) rfl (by kernel_rfl) (by kernel_rfl) (by kernel_rfl) (fun _ _ _ h => h) (Or.inl ⟨by kernel_rfl, ?_⟩) hHeld ?_
        rotate_left
        · (intro w hSw; (try dsimp only at hSw); have e0 := cell_of_block hSw.1 0; have g0 := cell_of_block hSw.2 0; have g1 := cell_of_block hSw.2 1; have g2 := cell_of_block hSw.2 2; have g3 := cell_of_block hSw.2 3; have g4 := cell_of_block hSw.2 4; have g5 := cell_of_block hSw.2 5; go_simp); try with_reducible rfl
        try simp only [Act.put, List.setIfInBounds_toArray, List.set_cons_zero, List.set_cons_succ]
        refine wpAnyH_take (i := 12) (oi := { dst := some 116, op := Op.load 2 (Operand.tmp 115), type := 2, pos := "law.go:215", after := #[{ on := 11, ground := Ground.data }], guard := none }) (v := ?_) rfl (by kernel_rfl) (by kernel_rfl) (by kernel_rfl) (fun _ _ _ h => h) (Or.inl ⟨by kernel_rfl, ?_⟩) hHeld ?_
        rotate_left
        · (intro w hSw; (try dsimp only at hSw); have e0 := cell_of_block hSw.1 0; have g0 := cell_of_block hSw.2 0; have g1 := cell_of_block hSw.2 1; have g2 := cell_of_block hSw.2 2; have g3 := cell_of_block hSw.2 3; have g4 := cell_of_block hSw.2 4; have g5 := cell_of_block hSw.2 5; go_simp); try with_reducible rfl
        try simp only [Act.put, List.setIfInBounds_toArray, List.set_cons_zero, List.set_cons_succ]
        refine wpAnyH_take (i := 15) (oi := { dst := some 119, op := Op.fieldAddr 47 (Operand.tmp 15) 1, type := 0, pos := "law.go:215", after := #[], guard := none }) (v := ?_) rfl (by kernel_rfl) (by kernel_rfl) (by kernel_rfl) (fun _ _ _ h => h) (Or.inl ⟨by kernel_rfl, ?_⟩) hHeld ?_
        rotate_left
        · (intro w hSw; (try dsimp only at hSw); have e0 := cell_of_block hSw.1 0; have g0 := cell_of_block hSw.2 0; have g1 := cell_of_block hSw.2 1; have g2 := cell_of_block hSw.2 2; have g3 := cell_of_block hSw.2 3; have g4 := cell_of_block hSw.2 4; have g5 := cell_of_block hSw.2 5; go_simp); try with_reducible rfl
        try simp only [Act.put, List.setIfInBounds_toArray, List.set_cons_zero, List.set_cons_succ]
        refine wpAnyH_take (i := 16) (oi := { dst := some 120, op := Op.indexAddr 45 (Operand.tmp 119) (Operand.const (Value.int IntKind.i64 1)), type := 0, pos := "law.go:215", after := #[{ on := 15, ground := Ground.data }], guard := none }) (v := ?_) rfl (by kernel_rfl) (by kernel_rfl) (by kernel_rfl) (fun _ _ _ h => h) (Or.inl ⟨by kernel_rfl, ?_⟩) hHeld ?_
        rotate_left
        · (intro w hSw; (try dsimp only at hSw); have e0 := cell_of_block hSw.1 0; have g0 := cell_of_block hSw.2 0; have g1 := cell_of_block hSw.2 1; have g2 := cell_of_block hSw.2 2; have g3 := cell_of_block hSw.2 3; have g4 := cell_of_block hSw.2 4; have g5 := cell_of_block hSw.2 5; go_simp); try with_reducible rfl
        try simp only [Act.put, List.setIfInBounds_toArray, List.set_cons_zero, List.set_cons_succ]
        refine wpAnyH_take (i := 17) (oi := { dst := some 121, op := Op.load 2 (Operand.tmp 120), type := 2, pos := "law.go:215", after := #[{ on := 16, ground := Ground.data }], guard := none }) (v := ?_) rfl (by kernel_rfl) (by kernel_rfl) (by kernel_rfl) (fun _ _ _ h => h) (Or.inl ⟨by kernel_rfl, ?_⟩) hHeld ?_
        rotate_left
        · (intro w hSw; (try dsimp only at hSw); have e0 := cell_of_block hSw.1 0; have g0 := cell_of_block hSw.2 0; have g1 := cell_of_block hSw.2 1; have g2 := cell_of_block hSw.2 2; have g3 := cell_of_block hSw.2 3; have g4 := cell_of_block hSw.2 4; have g5 := cell_of_block hSw.2 5; go_simp); try with_reducible rfl
        try simp only [Act.put, List.setIfInBounds_toArray, List.set_cons_zero, List.set_cons_succ]
        refine wpAnyH_take (i := 20) (oi := { dst := some 124, op := Op.fieldAddr 47 (Operand.tmp 15) 1, type := 0, pos := "law.go:215", after := #[], guard := none }) (v := ?_) rfl (by kernel_rfl) (by kernel_rfl) (by kernel_rfl) (fun _ _ _ h => h) (Or.inl ⟨by kernel_rfl, ?_⟩) hHeld ?_
        rotate_left
        · (intro w hSw; (try dsimp only at hSw); have e0 := cell_of_block hSw.1 0; have g0 := cell_of_block hSw.2 0; have g1 := cell_of_block hSw.2 1; have g2 := cell_of_block hSw.2 2; have g3 := cell_of_block hSw.2 3; have g4 := cell_of_block hSw.2 4; have g5 := cell_of_block hSw.2 5; go_simp); try with_reducible rfl
        try simp only [Act.put, List.setIfInBounds_toArray, List.set_cons_zero, List.set_cons_succ]
        refine wpAnyH_take (i := 21) (oi := { dst := some 125, op := Op.indexAddr 45 (Operand.tmp 124) (Operand.const (Value.int IntKind.i64 2)), type := 0, pos := "law.go:215", after := #[{ on := 20, ground := Ground.data }], guard := none }) (v := ?_) rfl (by kernel_rfl) (by kernel_rfl) (by kernel_rfl) (fun _ _ _ h => h) (Or.inl ⟨by kernel_rfl, ?_⟩) hHeld ?_
        rotate_left
        · (intro w hSw; (try dsimp only at hSw); have e0 := cell_of_block hSw.1 0; have g0 := cell_of_block hSw.2 0; have g1 := cell_of_block hSw.2 1; have g2 := cell_of_block hSw.2 2; have g3 := cell_of_block hSw.2 3; have g4 := cell_of_block hSw.2 4; have g5 := cell_of_block hSw.2 5; go_simp); try with_reducible rfl
        try simp only [Act.put, List.setIfInBounds_toArray, List.set_cons_zero, List.set_cons_succ]
        refine wpAnyH_take (i := 22) (oi := { dst := some 126, op := Op.load 2 (Operand.tmp 125), type := 2, pos := "law.go:215", after := #[{ on := 21, ground := Ground.data }], guard := none }) (v := ?_) rfl (by kernel_rfl) (by kernel_rfl) (by kernel_rfl) (fun _ _ _ h => h) (Or.inl ⟨by kernel_rfl, ?_⟩) hHeld ?_
        rotate_left
        · (intro w hSw; (try dsimp only at hSw); have e0 := cell_of_block hSw.1 0; have g0 := cell_of_block hSw.2 0; have g1 := cell_of_block hSw.2 1; have g2 := cell_of_block hSw.2 2; have g3 := cell_of_block hSw.2 3; have g4 := cell_of_block hSw.2 4; have g5 := cell_of_block hSw.2 5; go_simp); try with_reducible rfl
        try simp only [Act.put, List.setIfInBounds_toArray, List.set_cons_zero, List.set_cons_succ]
        refine wpAnyH_take (i := 25) (oi := { dst := some 129, op := Op.fieldAddr 47 (Operand.tmp 15) 1, type := 0, pos := "law.go:215", after := #[], guard := none }) (v := ?_) rfl (by kernel_rfl) (by kernel_rfl) (by kernel_rfl) (fun _ _ _ h => h) (Or.inl ⟨by kernel_rfl, ?_⟩) hHeld ?_
        rotate_left
        · (intro w hSw; (try dsimp only at hSw); have e0 := cell_of_block hSw.1 0; have g0 := cell_of_block hSw.2 0; have g1 := cell_of_block hSw.2 1; have g2 := cell_of_block hSw.2 2; have g3 := cell_of_block hSw.2 3; have g4 := cell_of_block hSw.2 4; have g5 := cell_of_block hSw.2 5; go_simp); try with_reducible rfl
        try simp only [Act.put, List.setIfInBounds_toArray, List.set_cons_zero, List.set_cons_succ]
        refine wpAnyH_take (i := 26) (oi := { dst := some 130, op := Op.indexAddr 45 (Operand.tmp 129) (Operand.const (Value.int IntKind.i64 3)), type := 0, pos := "law.go:215", after := #[{ on := 25, ground := Ground.data }], guard := none }) (v := ?_) rfl (by kernel_rfl) (by kernel_rfl) (by kernel_rfl) (fun _ _ _ h => h) (Or.inl ⟨by kernel_rfl, ?_⟩) hHeld ?_
        rotate_left
        · (intro w hSw; (try dsimp only at hSw); have e0 := cell_of_block hSw.1 0; have g0 := cell_of_block hSw.2 0; have g1 := cell_of_block hSw.2 1; have g2 := cell_of_block hSw.2 2; have g3 := cell_of_block hSw.2 3; have g4 := cell_of_block hSw.2 4; have g5 := cell_of_block hSw.2 5; go_simp); try with_reducible rfl
        try simp only [Act.put, List.setIfInBounds_toArray, List.set_cons_zero, List.set_cons_succ]
        refine wpAnyH_take (i := 27) (oi := { dst := some 131, op := Op.load 2 (Operand.tmp 130), type := 2, pos := "law.go:215", after := #[{ on := 26, ground := Ground.data }], guard := none }) (v := ?_) rfl (by kernel_rfl) (by kernel_rfl) (by kernel_rfl) (fun _ _ _ h => h) (Or.inl ⟨by kernel_rfl, ?_⟩) hHeld ?_
        rotate_left
        · (intro w hSw; (try dsimp only at hSw); have e0 := cell_of_block hSw.1 0; have g0 := cell_of_block hSw.2 0; have g1 := cell_of_block hSw.2 1; have g2 := cell_of_block hSw.2 2; have g3 := cell_of_block hSw.2 3; have g4 := cell_of_block hSw.2 4; have g5 := cell_of_block hSw.2 5; go_simp); try with_reducible rfl
        try simp only [Act.put, List.setIfInBounds_toArray, List.set_cons_zero, List.set_cons_succ]
        refine wpAnyH_take (i := 30) (oi := { dst := some 134, op := Op.fieldAddr 47 (Operand.tmp 15) 1, type := 0, pos := "law.go:215", after := #[], guard := none }) (v := ?_) rfl (by kernel_rfl) (by kernel_rfl) (by kernel_rfl) (fun _ _ _ h => h) (Or.inl ⟨by kernel_rfl, ?_⟩) hHeld ?_
        rotate_left
        · (intro w hSw; (try dsimp only at hSw); have e0 := cell_of_block hSw.1 0; have g0 := cell_of_block hSw.2 0; have g1 := cell_of_block hSw.2 1; have g2 := cell_of_block hSw.2 2; have g3 := cell_of_block hSw.2 3; have g4 := cell_of_block hSw.2 4; have g5 := cell_of_block hSw.2 5; go_simp); try with_reducible rfl
        try simp only [Act.put, List.setIfInBounds_toArray, List.set_cons_zero, List.set_cons_succ]
        refine wpAnyH_take (i := 31) (oi := { dst := some 135, op := Op.indexAddr 45 (Operand.tmp 134) (Operand.const (Value.int IntKind.i64 4)), type := 0, pos := "law.go:215", after := #[{ on := 30, ground := Ground.data }], guard := none }) (v := ?_) rfl (by kernel_rfl) (by kernel_rfl) (by kernel_rfl) (fun _ _ _ h => h) (Or.inl ⟨by kernel_rfl, ?_⟩) hHeld ?_
        rotate_left
        · (intro w hSw; (try dsimp only at hSw); have e0 := cell_of_block hSw.1 0; have g0 := cell_of_block hSw.2 0; have g1 := cell_of_block hSw.2 1; have g2 := cell_of_block hSw.2 2; have g3 := cell_of_block hSw.2 3; have g4 := cell_of_block hSw.2 4; have g5 := cell_of_block hSw.2 5; go_simp); try with_reducible rfl
        try simp only [Act.put, List.setIfInBounds_toArray, List.set_cons_zero, List.set_cons_succ]
        refine wpAnyH_take (i := 32) (oi := { dst := some 136, op := Op.load 2 (Operand.tmp 135), type := 2, pos := "law.go:215", after := #[{ on := 31, ground := Ground.data }], guard := none }) (v := ?_) rfl (by kernel_rfl) (by kernel_rfl) (by kernel_rfl) (fun _ _ _ h => h) (Or.inl ⟨by kernel_rfl, ?_⟩) hHeld ?_
        rotate_left
        · (intro w hSw; (try dsimp only at hSw); have e0 := cell_of_block hSw.1 0; have g0 := cell_of_block hSw.2 0; have g1 := cell_of_block hSw.2 1; have g2 := cell_of_block hSw.2 2; have g3 := cell_of_block hSw.2 3; have g4 := cell_of_block hSw.2 4; have g5 := cell_of_block hSw.2 5; go_simp); try with_reducible rfl
        try simp only [Act.put, List.setIfInBounds_toArray, List.set_cons_zero, List.set_cons_succ]
        refine wpAnyH_take (i := 35) (oi := { dst := some 139, op := Op.move (Operand.tmp 18), type := 9, pos := "law.go:215", after := #[], guard := none }) (v := ?_) rfl (by kernel_rfl) (by kernel_rfl) (by kernel_rfl) (fun _ _ _ h => h) (Or.inl ⟨by kernel_rfl, ?_⟩) hHeld ?_
        rotate_left
        · (intro w hSw; (try dsimp only at hSw); have e0 := cell_of_block hSw.1 0; have g0 := cell_of_block hSw.2 0; have g1 := cell_of_block hSw.2 1; have g2 := cell_of_block hSw.2 2; have g3 := cell_of_block hSw.2 3; have g4 := cell_of_block hSw.2 4; have g5 := cell_of_block hSw.2 5; go_simp); try with_reducible rfl
        try simp only [Act.put, List.setIfInBounds_toArray, List.set_cons_zero, List.set_cons_succ]
        refine wpAnyH_ready (rs := [1]) (by kernel_rfl) (by simp) (AllReadyH.cons (o := { dst := some 105, op := Op.call { callee := Callee.value (Operand.func 15), args := #[Operand.tmp 104], argTypes := #[3] }, type := 9, pos := "law.go:215", after := #[{ on := 0, ground := Ground.data }], guard := none }) rfl (fun K hK => ?_) AllReadyH.nil)
        have hOld := hide hHeld
        clear hHeld
        go_simp
        refine (HC0.out _ (tab_below HT.out (B0.out.trans (BU0.out.mono B0.out.size)))).mono ?_
        rintro e v1 ⟨rfl, hb⟩
        have X1 := hide ((hb.block _ (heap_lt X0.out)).trans X0.out)
        have D1 := hide ((hb.block _ (heap_lt D0.out)).trans D0.out)
        have BU1 := hide (BU0.out.trans (hb.mono BU0.out.size))
        clear hb
        (try go_wp2_with fail)
        refine hK.out _ _ (⟨X1.out, D1.out⟩) (fun hHeld => ?_)
        clear hK K hOld
        try simp only [Act.put, List.setIfInBounds_toArray, List.set_cons_zero, List.set_cons_succ]
        refine wpAnyH_take (i := 2) (oi := { dst := some 106, op := Op.binOp BinOp.add 9 (Operand.const (Value.string { data := #[115, 104, 105, 102, 116, 32] })) (Operand.tmp 105) 9, type := 9, pos := "law.go:215", after := #[{ on := 1, ground := Ground.data }], guard := none }) (v := ?_) rfl (by kernel_rfl) (by kernel_rfl) (by kernel_rfl) (fun _ _ _ h => h) (Or.inl ⟨by kernel_rfl, ?_⟩) hHeld ?_
        rotate_left
        · (intro w hSw; (try dsimp only at hSw); have e0 := cell_of_block hSw.1 0; have g0 := cell_of_block hSw.2 0; have g1 := cell_of_block hSw.2 1; have g2 := cell_of_block hSw.2 2; have g3 := cell_of_block hSw.2 3; have g4 := cell_of_block hSw.2 4; have g5 := cell_of_block hSw.2 5; go_simp); try with_reducible rfl
        try simp only [Act.put, List.setIfInBounds_toArray, List.set_cons_zero, List.set_cons_succ]
        refine wpAnyH_take (i := 3) (oi := { dst := some 107, op := Op.binOp BinOp.add 9 (Operand.tmp 106) (Operand.const (Value.string { data := #[32] })) 9, type := 9, pos := "law.go:215", after := #[{ on := 2, ground := Ground.data }], guard := none }) (v := ?_) rfl (by kernel_rfl) (by kernel_rfl) (by kernel_rfl) (fun _ _ _ h => h) (Or.inl ⟨by kernel_rfl, ?_⟩) hHeld ?_
        rotate_left
        · (intro w hSw; (try dsimp only at hSw); have e0 := cell_of_block hSw.1 0; have g0 := cell_of_block hSw.2 0; have g1 := cell_of_block hSw.2 1; have g2 := cell_of_block hSw.2 2; have g3 := cell_of_block hSw.2 3; have g4 := cell_of_block hSw.2 4; have g5 := cell_of_block hSw.2 5; go_simp); try with_reducible rfl
        try simp only [Act.put, List.setIfInBounds_toArray, List.set_cons_zero, List.set_cons_succ]
        refine wpAnyH_take (i := 5) (oi := { dst := some 109, op := Op.binOp BinOp.add 9 (Operand.tmp 107) (Operand.tmp 108) 9, type := 9, pos := "law.go:215", after := #[{ on := 3, ground := Ground.data }, { on := 4, ground := Ground.data }], guard := none }) (v := ?_) rfl (by kernel_rfl) (by kernel_rfl) (by kernel_rfl) (fun _ _ _ h => h) (Or.inl ⟨by kernel_rfl, ?_⟩) hHeld ?_
        rotate_left
        · (intro w hSw; (try dsimp only at hSw); have e0 := cell_of_block hSw.1 0; have g0 := cell_of_block hSw.2 0; have g1 := cell_of_block hSw.2 1; have g2 := cell_of_block hSw.2 2; have g3 := cell_of_block hSw.2 3; have g4 := cell_of_block hSw.2 4; have g5 := cell_of_block hSw.2 5; go_simp); try with_reducible rfl
        try simp only [Act.put, List.setIfInBounds_toArray, List.set_cons_zero, List.set_cons_succ]
        refine wpAnyH_ready (rs := [8]) (by kernel_rfl) (by simp) (AllReadyH.cons (o := { dst := some 112, op := Op.call { callee := Callee.value (Operand.func 15), args := #[Operand.tmp 111], argTypes := #[3] }, type := 9, pos := "law.go:215", after := #[{ on := 7, ground := Ground.data }, { on := 1, ground := Ground.chain }], guard := none }) rfl (fun K hK => ?_) AllReadyH.nil)
        have hOld := hide hHeld
        clear hHeld
        go_simp
        refine (HC1.out _ (tab_below HT.out (B0.out.trans (BU1.out.mono B0.out.size)))).mono ?_
        rintro e v2 ⟨rfl, hb⟩
        have X2 := hide ((hb.block _ (heap_lt X1.out)).trans X1.out)
        have D2 := hide ((hb.block _ (heap_lt D1.out)).trans D1.out)
        have BU2 := hide (BU1.out.trans (hb.mono BU1.out.size))
        clear hb
        (try go_wp2_with fail)
        refine hK.out _ _ (⟨X2.out, D2.out⟩) (fun hHeld => ?_)
        clear hK K hOld
        try simp only [Act.put, List.setIfInBounds_toArray, List.set_cons_zero, List.set_cons_succ]
        refine wpAnyH_take (i := 9) (oi := { dst := some 113, op := Op.binOp BinOp.add 9 (Operand.const (Value.string { data := #[99, 111, 117, 110, 116, 32] })) (Operand.tmp 112) 9, type := 9, pos := "law.go:215", after := #[{ on := 8, ground := Ground.data }], guard := none }) (v := ?_) rfl (by kernel_rfl) (by kernel_rfl) (by kernel_rfl) (fun _ _ _ h => h) (Or.inl ⟨by kernel_rfl, ?_⟩) hHeld ?_
        rotate_left
        · (intro w hSw; (try dsimp only at hSw); have e0 := cell_of_block hSw.1 0; have g0 := cell_of_block hSw.2 0; have g1 := cell_of_block hSw.2 1; have g2 := cell_of_block hSw.2 2; have g3 := cell_of_block hSw.2 3; have g4 := cell_of_block hSw.2 4; have g5 := cell_of_block hSw.2 5; go_simp); try with_reducible rfl
        try simp only [Act.put, List.setIfInBounds_toArray, List.set_cons_zero, List.set_cons_succ]
        refine wpAnyH_ready (rs := [13]) (by kernel_rfl) (by simp) (AllReadyH.cons (o := { dst := some 117, op := Op.call { callee := Callee.value (Operand.func 14), args := #[Operand.tmp 116], argTypes := #[2] }, type := 9, pos := "law.go:215", after := #[{ on := 12, ground := Ground.data }, { on := 8, ground := Ground.chain }], guard := none }) rfl (fun K hK => ?_) AllReadyH.nil)
        have hOld := hide hHeld
        clear hHeld
        go_simp
        refine (HC2.out _ (tab_below HT.out (B0.out.trans (BU2.out.mono B0.out.size)))).mono ?_
        rintro e v3 ⟨rfl, hb⟩
        have X3 := hide ((hb.block _ (heap_lt X2.out)).trans X2.out)
        have D3 := hide ((hb.block _ (heap_lt D2.out)).trans D2.out)
        have BU3 := hide (BU2.out.trans (hb.mono BU2.out.size))
        clear hb
        (try go_wp2_with fail)
        refine hK.out _ _ (⟨X3.out, D3.out⟩) (fun hHeld => ?_)
        clear hK K hOld
        try simp only [Act.put, List.setIfInBounds_toArray, List.set_cons_zero, List.set_cons_succ]
        refine wpAnyH_take (i := 14) (oi := { dst := some 118, op := Op.binOp BinOp.add 9 (Operand.const (Value.string { data := #[115, 97, 108, 101, 115, 32] })) (Operand.tmp 117) 9, type := 9, pos := "law.go:215", after := #[{ on := 13, ground := Ground.data }], guard := none }) (v := ?_) rfl (by kernel_rfl) (by kernel_rfl) (by kernel_rfl) (fun _ _ _ h => h) (Or.inl ⟨by kernel_rfl, ?_⟩) hHeld ?_
        rotate_left
        · (intro w hSw; (try dsimp only at hSw); have e0 := cell_of_block hSw.1 0; have g0 := cell_of_block hSw.2 0; have g1 := cell_of_block hSw.2 1; have g2 := cell_of_block hSw.2 2; have g3 := cell_of_block hSw.2 3; have g4 := cell_of_block hSw.2 4; have g5 := cell_of_block hSw.2 5; go_simp); try with_reducible rfl
        try simp only [Act.put, List.setIfInBounds_toArray, List.set_cons_zero, List.set_cons_succ]
        refine wpAnyH_ready (rs := [18]) (by kernel_rfl) (by simp) (AllReadyH.cons (o := { dst := some 122, op := Op.call { callee := Callee.value (Operand.func 14), args := #[Operand.tmp 121], argTypes := #[2] }, type := 9, pos := "law.go:215", after := #[{ on := 17, ground := Ground.data }, { on := 13, ground := Ground.chain }], guard := none }) rfl (fun K hK => ?_) AllReadyH.nil)
        have hOld := hide hHeld
        clear hHeld
        go_simp
        refine (HC3.out _ (tab_below HT.out (B0.out.trans (BU3.out.mono B0.out.size)))).mono ?_
        rintro e v4 ⟨rfl, hb⟩
        have X4 := hide ((hb.block _ (heap_lt X3.out)).trans X3.out)
        have D4 := hide ((hb.block _ (heap_lt D3.out)).trans D3.out)
        have BU4 := hide (BU3.out.trans (hb.mono BU3.out.size))
        clear hb
        (try go_wp2_with fail)
        refine hK.out _ _ (⟨X4.out, D4.out⟩) (fun hHeld => ?_)
        clear hK K hOld
        try simp only [Act.put, List.setIfInBounds_toArray, List.set_cons_zero, List.set_cons_succ]
        refine wpAnyH_take (i := 19) (oi := { dst := some 123, op := Op.binOp BinOp.add 9 (Operand.const (Value.string { data := #[118, 111, 105, 100, 115, 32] })) (Operand.tmp 122) 9, type := 9, pos := "law.go:215", after := #[{ on := 18, ground := Ground.data }], guard := none }) (v := ?_) rfl (by kernel_rfl) (by kernel_rfl) (by kernel_rfl) (fun _ _ _ h => h) (Or.inl ⟨by kernel_rfl, ?_⟩) hHeld ?_
        rotate_left
        · (intro w hSw; (try dsimp only at hSw); have e0 := cell_of_block hSw.1 0; have g0 := cell_of_block hSw.2 0; have g1 := cell_of_block hSw.2 1; have g2 := cell_of_block hSw.2 2; have g3 := cell_of_block hSw.2 3; have g4 := cell_of_block hSw.2 4; have g5 := cell_of_block hSw.2 5; go_simp); try with_reducible rfl
        try simp only [Act.put, List.setIfInBounds_toArray, List.set_cons_zero, List.set_cons_succ]
        refine wpAnyH_ready (rs := [23]) (by kernel_rfl) (by simp) (AllReadyH.cons (o := { dst := some 127, op := Op.call { callee := Callee.value (Operand.func 14), args := #[Operand.tmp 126], argTypes := #[2] }, type := 9, pos := "law.go:215", after := #[{ on := 22, ground := Ground.data }, { on := 18, ground := Ground.chain }], guard := none }) rfl (fun K hK => ?_) AllReadyH.nil)
        have hOld := hide hHeld
        clear hHeld
        go_simp
        refine (HC4.out _ (tab_below HT.out (B0.out.trans (BU4.out.mono B0.out.size)))).mono ?_
        rintro e v5 ⟨rfl, hb⟩
        have X5 := hide ((hb.block _ (heap_lt X4.out)).trans X4.out)
        have D5 := hide ((hb.block _ (heap_lt D4.out)).trans D4.out)
        have BU5 := hide (BU4.out.trans (hb.mono BU4.out.size))
        clear hb
        (try go_wp2_with fail)
        refine hK.out _ _ (⟨X5.out, D5.out⟩) (fun hHeld => ?_)
        clear hK K hOld
        try simp only [Act.put, List.setIfInBounds_toArray, List.set_cons_zero, List.set_cons_succ]
        refine wpAnyH_take (i := 24) (oi := { dst := some 128, op := Op.binOp BinOp.add 9 (Operand.const (Value.string { data := #[114, 101, 102, 117, 110, 100, 115, 32] })) (Operand.tmp 127) 9, type := 9, pos := "law.go:215", after := #[{ on := 23, ground := Ground.data }], guard := none }) (v := ?_) rfl (by kernel_rfl) (by kernel_rfl) (by kernel_rfl) (fun _ _ _ h => h) (Or.inl ⟨by kernel_rfl, ?_⟩) hHeld ?_
        rotate_left
        · (intro w hSw; (try dsimp only at hSw); have e0 := cell_of_block hSw.1 0; have g0 := cell_of_block hSw.2 0; have g1 := cell_of_block hSw.2 1; have g2 := cell_of_block hSw.2 2; have g3 := cell_of_block hSw.2 3; have g4 := cell_of_block hSw.2 4; have g5 := cell_of_block hSw.2 5; go_simp); try with_reducible rfl
        try simp only [Act.put, List.setIfInBounds_toArray, List.set_cons_zero, List.set_cons_succ]
        refine wpAnyH_ready (rs := [28]) (by kernel_rfl) (by simp) (AllReadyH.cons (o := { dst := some 132, op := Op.call { callee := Callee.value (Operand.func 14), args := #[Operand.tmp 131], argTypes := #[2] }, type := 9, pos := "law.go:215", after := #[{ on := 27, ground := Ground.data }, { on := 23, ground := Ground.chain }], guard := none }) rfl (fun K hK => ?_) AllReadyH.nil)
        have hOld := hide hHeld
        clear hHeld
        go_simp
        refine (HC5.out _ (tab_below HT.out (B0.out.trans (BU5.out.mono B0.out.size)))).mono ?_
        rintro e v6 ⟨rfl, hb⟩
        have X6 := hide ((hb.block _ (heap_lt X5.out)).trans X5.out)
        have D6 := hide ((hb.block _ (heap_lt D5.out)).trans D5.out)
        have BU6 := hide (BU5.out.trans (hb.mono BU5.out.size))
        clear hb
        (try go_wp2_with fail)
        refine hK.out _ _ (⟨X6.out, D6.out⟩) (fun hHeld => ?_)
        clear hK K hOld
        try simp only [Act.put, List.setIfInBounds_toArray, List.set_cons_zero, List.set_cons_succ]
        refine wpAnyH_take (i := 29) (oi := { dst := some 133, op := Op.binOp BinOp.add 9 (Operand.const (Value.string { data := #[105, 110, 115, 32] })) (Operand.tmp 132) 9, type := 9, pos := "law.go:215", after := #[{ on := 28, ground := Ground.data }], guard := none }) (v := ?_) rfl (by kernel_rfl) (by kernel_rfl) (by kernel_rfl) (fun _ _ _ h => h) (Or.inl ⟨by kernel_rfl, ?_⟩) hHeld ?_
        rotate_left
        · (intro w hSw; (try dsimp only at hSw); have e0 := cell_of_block hSw.1 0; have g0 := cell_of_block hSw.2 0; have g1 := cell_of_block hSw.2 1; have g2 := cell_of_block hSw.2 2; have g3 := cell_of_block hSw.2 3; have g4 := cell_of_block hSw.2 4; have g5 := cell_of_block hSw.2 5; go_simp); try with_reducible rfl
        try simp only [Act.put, List.setIfInBounds_toArray, List.set_cons_zero, List.set_cons_succ]
        refine wpAnyH_ready (rs := [33]) (by kernel_rfl) (by simp) (AllReadyH.cons (o := { dst := some 137, op := Op.call { callee := Callee.value (Operand.func 14), args := #[Operand.tmp 136], argTypes := #[2] }, type := 9, pos := "law.go:215", after := #[{ on := 32, ground := Ground.data }, { on := 28, ground := Ground.chain }], guard := none }) rfl (fun K hK => ?_) AllReadyH.nil)
        have hOld := hide hHeld
        clear hHeld
        go_simp
        refine (HC6.out _ (tab_below HT.out (B0.out.trans (BU6.out.mono B0.out.size)))).mono ?_
        rintro e v7 ⟨rfl, hb⟩
        have X7 := hide ((hb.block _ (heap_lt X6.out)).trans X6.out)
        have D7 := hide ((hb.block _ (heap_lt D6.out)).trans D6.out)
        have BU7 := hide (BU6.out.trans (hb.mono BU6.out.size))
        clear hb
        (try go_wp2_with fail)
        refine hK.out _ _ (⟨X7.out, D7.out⟩) (fun hHeld => ?_)
        clear hK K hOld
        try simp only [Act.put, List.setIfInBounds_toArray, List.set_cons_zero, List.set_cons_succ]
        refine wpAnyH_take (i := 34) (oi := { dst := some 138, op := Op.binOp BinOp.add 9 (Operand.const (Value.string { data := #[111, 117, 116, 32] })) (Operand.tmp 137) 9, type := 9, pos := "law.go:215", after := #[{ on := 33, ground := Ground.data }], guard := none }) (v := ?_) rfl (by kernel_rfl) (by kernel_rfl) (by kernel_rfl) (fun _ _ _ h => h) (Or.inl ⟨by kernel_rfl, ?_⟩) hHeld ?_
        rotate_left
        · (intro w hSw; (try dsimp only at hSw); have e0 := cell_of_block hSw.1 0; have g0 := cell_of_block hSw.2 0; have g1 := cell_of_block hSw.2 1; have g2 := cell_of_block hSw.2 2; have g3 := cell_of_block hSw.2 3; have g4 := cell_of_block hSw.2 4; have g5 := cell_of_block hSw.2 5; go_simp); try with_reducible rfl
        try simp only [Act.put, List.setIfInBounds_toArray, List.set_cons_zero, List.set_cons_succ]
        refine wpAnyH_ready (rs := [36]) (by kernel_rfl) (by simp) (AllReadyH.cons (o := { dst := some 140, op := Op.buildSlice 41 8 #[(0, Operand.tmp 109), (1, Operand.tmp 113), (2, Operand.tmp 118), (3, Operand.tmp 123), (4, Operand.tmp 128), (5, Operand.tmp 133), (6, Operand.tmp 138), (7, Operand.tmp 139)], type := 41, pos := "law.go:215", after := #[{ on := 5, ground := Ground.data }, { on := 9, ground := Ground.data }, { on := 14, ground := Ground.data }, { on := 19, ground := Ground.data }, { on := 24, ground := Ground.data }, { on := 29, ground := Ground.data }, { on := 34, ground := Ground.data }, { on := 35, ground := Ground.data }], guard := none }) rfl (fun K hK => ?_) AllReadyH.nil)
        have hOld := hide hHeld
        clear hHeld
        go_simp
        have hal := (Below.refl v7.heap.size v7).alloc (Nat.le_refl _) (.cells #[.string (((⟨#[115, 104, 105, 102, 116, 32]⟩ : ByteArray) ++ I1) ++ (⟨#[32]⟩ : ByteArray) ++ how), .string ((⟨#[99, 111, 117, 110, 116, 32]⟩ : ByteArray) ++ I2), .string ((⟨#[115, 97, 108, 101, 115, 32]⟩ : ByteArray) ++ tx0), .string ((⟨#[118, 111, 105, 100, 115, 32]⟩ : ByteArray) ++ tx1), .string ((⟨#[114, 101, 102, 117, 110, 100, 115, 32]⟩ : ByteArray) ++ tx2), .string ((⟨#[105, 110, 115, 32]⟩ : ByteArray) ++ tx3), .string ((⟨#[111, 117, 116, 32]⟩ : ByteArray) ++ tx4), .string la] 9)
        have XW8 := hide (heap_new v7 (.cells #[.string (((⟨#[115, 104, 105, 102, 116, 32]⟩ : ByteArray) ++ I1) ++ (⟨#[32]⟩ : ByteArray) ++ how), .string ((⟨#[99, 111, 117, 110, 116, 32]⟩ : ByteArray) ++ I2), .string ((⟨#[115, 97, 108, 101, 115, 32]⟩ : ByteArray) ++ tx0), .string ((⟨#[118, 111, 105, 100, 115, 32]⟩ : ByteArray) ++ tx1), .string ((⟨#[114, 101, 102, 117, 110, 100, 115, 32]⟩ : ByteArray) ++ tx2), .string ((⟨#[105, 110, 115, 32]⟩ : ByteArray) ++ tx3), .string ((⟨#[111, 117, 116, 32]⟩ : ByteArray) ++ tx4), .string la] 9))
        have X8 := hide ((hal.block _ (heap_lt X7.out)).trans X7.out)
        have D8 := hide ((hal.block _ (heap_lt D7.out)).trans D7.out)
        have BU8 := hide (BU7.out.trans (hal.mono BU7.out.size))
        clear hal
        generalize v7.alloc (.cells #[.string (((⟨#[115, 104, 105, 102, 116, 32]⟩ : ByteArray) ++ I1) ++ (⟨#[32]⟩ : ByteArray) ++ how), .string ((⟨#[99, 111, 117, 110, 116, 32]⟩ : ByteArray) ++ I2), .string ((⟨#[115, 97, 108, 101, 115, 32]⟩ : ByteArray) ++ tx0), .string ((⟨#[118, 111, 105, 100, 115, 32]⟩ : ByteArray) ++ tx1), .string ((⟨#[114, 101, 102, 117, 110, 100, 115, 32]⟩ : ByteArray) ++ tx2), .string ((⟨#[105, 110, 115, 32]⟩ : ByteArray) ++ tx3), .string ((⟨#[111, 117, 116, 32]⟩ : ByteArray) ++ tx4), .string la] 9) = v8 at *
        generalize v7.heap.size = ob at *
        (try go_wp2_with fail)
        refine hK.out _ _ (⟨X8.out, D8.out⟩) (fun hHeld => ?_)
        clear hK K hOld
        try simp only [Act.put, List.setIfInBounds_toArray, List.set_cons_zero, List.set_cons_succ]
        refine wpAnyH_take (i := 37) (oi := { dst := some 19, op := Op.assign (Operand.tmp 140), type := 41, pos := "law.go:215", after := #[{ on := 36, ground := Ground.data }, { on := 33, ground := Ground.chain }, { on := 0, ground := Ground.phase }, { on := 1, ground := Ground.phase }, { on := 2, ground := Ground.phase }, { on := 3, ground := Ground.phase }, { on := 4, ground := Ground.phase }, { on := 5, ground := Ground.phase }, { on := 6, ground := Ground.phase }, { on := 7, ground := Ground.phase }, { on := 8, ground := Ground.phase }, { on := 9, ground := Ground.phase }, { on := 10, ground := Ground.phase }, { on := 11, ground := Ground.phase }, { on := 12, ground := Ground.phase }, { on := 13, ground := Ground.phase }, { on := 14, ground := Ground.phase }, { on := 15, ground := Ground.phase }, { on := 16, ground := Ground.phase }, { on := 17, ground := Ground.phase }, { on := 18, ground := Ground.phase }, { on := 19, ground := Ground.phase }, { on := 20, ground := Ground.phase }, { on := 21, ground := Ground.phase }, { on := 22, ground := Ground.phase }, { on := 23, ground := Ground.phase }, { on := 24, ground := Ground.phase }, { on := 25, ground := Ground.phase }, { on := 26, ground := Ground.phase }, { on := 27, ground := Ground.phase }, { on := 28, ground := Ground.phase }, { on := 29, ground := Ground.phase }, { on := 30, ground := Ground.phase }, { on := 31, ground := Ground.phase }, { on := 32, ground := Ground.phase }, { on := 33, ground := Ground.phase }, { on := 34, ground := Ground.phase }, { on := 35, ground := Ground.phase }, { on := 36, ground := Ground.phase }], guard := none }) (v := ?_) rfl (by kernel_rfl) (by kernel_rfl) (by kernel_rfl) (fun _ _ _ h => h) (Or.inl ⟨by kernel_rfl, ?_⟩) hHeld ?_
        rotate_left
        · (intro w hSw; (try dsimp only at hSw); have e0 := cell_of_block hSw.1 0; have g0 := cell_of_block hSw.2 0; have g1 := cell_of_block hSw.2 1; have g2 := cell_of_block hSw.2 2; have g3 := cell_of_block hSw.2 3; have g4 := cell_of_block hSw.2 4; have g5 := cell_of_block hSw.2 5; go_simp); try with_reducible rfl
        try simp only [Act.put, List.setIfInBounds_toArray, List.set_cons_zero, List.set_cons_succ]
        refine wpAnyH_done (by kernel_rfl) ?_ _
        clear hHeld

        have R8 := hide (owns_below R0.out BU8.out)
        have BW8 := hide (BW0.out.trans (BU8.out.mono BW0.out.size))
        clear X0 X1 X2 X3 X4 X5 X6 X7 X8 D0 D1 D2 D3 D4 D5 D6 D7 D8 BU0 BU1 BU2 BU3 BU4 BU5 BU6 BU7 BU8 R0 BW0 q0 q1 q2 q3 q4 q5 q6 q7 q8 HC0 HC1 HC2 HC3 HC4 HC5 HC6 S5 T5
        have HRD := hide (fun (W : World) (h1 : W.ownsRow wr.heap.size 9 1 (.slice (some ⟨g, 0, none⟩) 8 c) 8 (LT.map Value.string)) (h2 : W.heap[ob]? = some (.cells #[.string (((⟨#[115, 104, 105, 102, 116, 32]⟩ : ByteArray) ++ I1) ++ (⟨#[32]⟩ : ByteArray) ++ how), .string ((⟨#[99, 111, 117, 110, 116, 32]⟩ : ByteArray) ++ I2), .string ((⟨#[115, 97, 108, 101, 115, 32]⟩ : ByteArray) ++ tx0), .string ((⟨#[118, 111, 105, 100, 115, 32]⟩ : ByteArray) ++ tx1), .string ((⟨#[114, 101, 102, 117, 110, 100, 115, 32]⟩ : ByteArray) ++ tx2), .string ((⟨#[105, 110, 115, 32]⟩ : ByteArray) ++ tx3), .string ((⟨#[111, 117, 116, 32]⟩ : ByteArray) ++ tx4), .string la] 9 (0, 0))) j hj => str_at HLL.out h1 (by rw [HLQ.out]; exact h2) j hj)
        go_wp2_with fail
        go_loopw [148] (fun i W => ∃ j : Nat, j ≤ 8 ∧ i = .int .i64 j ∧ Below v8.heap.size v8 W) (fun i _ => 8 - (intOf i).toNat)
        case atStart => exact ⟨0, by omega, rfl, Below.refl _ _⟩
        case round =>
        obtain ⟨j, hj, rfl, hb⟩ := hrel
        have BJ := hide hb
        clear hb
        by_cases hlt : j < 8
        · have HJL := hide hlt
          obtain ⟨x, hc1, hc2⟩ := HRD.out _ (owns_below R8.out BJ.out) ((BJ.out.block _ (heap_lt XW8.out)).trans XW8.out) j hlt
          have hji : (j : Int) < 8 := by omega
          have hbd2 : IntKind.i64.wrap ((j : Int) + 1) = (j : Int) + 1 := by rw [IntKind.wrap_i64]; omega
          go_upto_region 36 with (fail)
          go_quiet (fail)
          clear hc1 hc2
          generalize hdr : World.drewN _ _ = wd at *
          have BD := hide (show Below v8.heap.size v8 wd from by rw [← hdr]; exact below_drewN BJ.out _)
          clear hdr
          go_wp2_with fail
          go_roundw
          case rel => exact ⟨j + 1, HJL.out, by go_num, BD.out⟩
          case measure => have := HJL.out; simp [intOf]; omega
        · obtain rfl : j = 8 := by omega
          have BF := hide (BW8.out.trans (BJ.out.mono BW8.out.size))
          go_wp2_with fail
          go_roundw
          case rel => exact ⟨k + 1, HKL.out, by go_num, BF.out⟩
          case measure => have := HKL.out; simp [intOf]; omega
    · obtain rfl : k = 7 := by omega
      go_wp2_with fail
      refine (lines_none _).mono ?_
      rintro e w9 ⟨rfl, hb⟩
      go_wp2_with fail
      go_ret
      have h3 := (HBASE.out _ (BK.out.trans (hb.mono BK.out.size))).2.2.1
      exact ⟨rfl, by rw [HQ.out]; exact h3⟩

set_option maxRecDepth 100000 in
theorem shiftReports_lifted (os : Os) (started : os.Started) (H : Type) (enc : TypeId × Value → H) :
    ReturnsInHanded {} Tryd.checked os 3 .any (fun w args => (Rows.shiftReportsSpec.pre enc Tryd.prog Tryd.f3 [] false w args ∧ laidMetH Tryd.prog laidL w) ∧ sizedMet enc Tryd.prog Tryd.f3 (OpenSpec.ofChange Rows.shiftReportsSpec) false w args)
      (Rows.shiftReportsSpec.post enc Tryd.prog Tryd.f3 false true false false) := by
  refine returnsInHanded_of_change_and (C := Tryd.checked) (X := fun w _ => laidMetH Tryd.prog laidL w) (fun _ _ _ hh h => h.of_heap hh) own started (by kernel_rfl) Tryd.func3
    (ChangeSpec.witness_shaped (enc := enc) (C := Tryd.checked) (os := os) (X := fun w _ => laidMetH Tryd.prog laidL w) false (World.doorLaid Tryd.prog 400 os) #[.slice none 0 0, .int .i64 0] 8 rfl (World.shaped_of_RefB (by kernel_rfl) (by kernel_rfl)) (by kernel_rfl) (by kernel_rfl) (by kernel_rfl) (door_met os _)) ?_
  intro W base args ds gs before hval0 hW _ _ hL _
  have hval : ∀ (j : Nat) t v, Tryd.f3.params[j]? = some t → args[j]? = some v → Value.okWide Tryd.prog W .any base t v := hval0
  have hW' := hW
  obtain ⟨p, q, hA0, hV, rfl, hfz, hnd⟩ := hW
  have hA : DataW.TrodAll enc Tryd.prog W 0 (fun _ => true) true Tryd.f3.params.toList args.toList ds p := hA0
  rw [Tryd.params3] at hA hval
  obtain ⟨v0, vs0, d0, ds0, p0, q0, hargs, rfl, rfl, h0, r0⟩ := trodAll_cons hA
  obtain ⟨v1, vs1, d1, ds1, p1, q1, rfl, rfl, rfl, h1, r1⟩ := trodAll_cons r0
  obtain ⟨rfl, rfl, rfl⟩ := trodAll_nil r1
  obtain rfl : args = #[v0, v1] := by cases args; simp_all
  obtain ⟨rfl, rfl⟩ := trodVars_none hV
  have z0 := open_actSs (hval 0 22 v0 rfl rfl) h0
  obtain ⟨number, rfl, rfl, rfl, w1⟩ := open_int Tryd.underlying3 (hval 1 3 v1 rfl rfl) h1
  have z1 := wf_i64 w1
  clear hA0 hval0
  refine (shiftReports_walk v0 number z1.1 z1.2 W z0 (tab_of_laid hL)).mono fun e W' ⟨he, hb⟩ => ?_
  subst he
  exact ⟨_, rfl, post_law laidOut (of_decide_eq_true (by kernel_rfl)) rfl rfl Tryd.underlying4 hW' ⟨rfl, rfl, rfl⟩ hb⟩

/-- THE STATEMENT -/
theorem shiftReports_holds : Rows.ShiftReportsSaid :=
  OpenClaim.holds_of_wide 3 Tryd.f3 rfl rfl rfl rfl rfl rfl rfl ⟨rfl, rfl, rfl, rfl, rfl⟩ rfl rfl rfl rfl rfl (by kernel_rfl) Tryd.func3 (by kernel_rfl)
    (of_decide_eq_true (by kernel_rfl)) (by unfold Func.isWrapper; first | (rw [if_pos (by decide +kernel)]; kernel_rfl) | (rw [if_neg (by decide +kernel)]; exact ⟨rfl, rfl⟩))
    (fun os started H enc _ => shiftReports_lifted os started H enc)



/-- THE TIED CARD -/
theorem shiftReports_card_holds : Rows.ShiftReportsCardSaid :=
  Claim7.holds_tied_plain_at .later [] [.data, .data, .data] true (true, "c7f23d383bdaa1de86169a0f52fbba1b25e49da28cfeb89dcb0ebc724adf48bc") false
    shiftReports_holds (fun _ h => by cases h) (by kernel_rfl) (fun _ h => by cases h) shiftReports_row_tie rfl ⟨rfl, rfl⟩ (by kernel_rfl) rfl
    (fun f fn hf hfn => by
      obtain rfl : f = 3 := Option.some.inj ((show Tryd.prog.funcNamed "tillroll/tillrolllaw26.ShiftReports" = some 3 by kernel_rfl).symm.trans hf) |>.symm
      obtain rfl : fn = Tryd.f3 := (Option.some.inj (Tryd.func3.symm.trans hfn)).symm
      exact ⟨by kernel_rfl, fun j t ht => by
        rw [Tryd.params3] at ht
        have hm : t ∈ [22, 3] := by simpa using Array.mem_of_getElem? ht
        have hall : ([22, 3].all fun u => !Tryd.prog.wantsStandIn u) = true := by kernel_rfl
        exact (show Tryd.prog.wantsStandIn t = false by simpa using List.all_eq_true.1 hall t hm)⟩)
    (by kernel_rfl)

end Go.Proofs.YtnnggchkdffpnaaDoor
