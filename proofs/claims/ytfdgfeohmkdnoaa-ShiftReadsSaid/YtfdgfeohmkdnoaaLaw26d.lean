/-
  Layer 26: ShiftReads: the shifts of all bytes, of every keep, are the document's, or its error; what stands behind them isn't read; of nil ones nothing is told. No condition.
-/
import Derived.Test.YtfdgfeohmkdnoaaShP
import Derived.Test.YtfdgfeohmkdnoaaShN
import Derived.Test.YtfdgfeohmkdnoaaRShR2
import Derived.Test.YtfdgfeohmkdnoaaKitRow
import Derived.Test.YtfdgfeohmkdnoaaKitT
import Derived.Deep.CutBlock
--import Derived.Test.Zdbg
namespace Go.Proofs.Ytfdgfeohmkdnoaa
set_option linter.unusedSimpArgs false
set_option linter.unusedVariables false
open Go.RowKit Go.WideShapes Go.ChangeShapes Go.ChangeAt Go.Deep
theorem xor_byte (x : UInt8) (a : Int) (h0 : 0 ≤ a) (h1 : a ≤ 255) : ∃ y : UInt8, bits .xor .u8 (x.toNat : Int) a = (y.toNat : Int) := by
  refine ⟨x ^^^ UInt8.ofNat a.toNat, ?_⟩
  have h2 : (UInt8.ofNat a.toNat).toNat = a.toNat := by simp; omega
  rw [UInt8.toNat_xor, h2, ← u8_xor_nat _ _ (x.toNat_lt) (by omega), Int.toNat_of_nonneg h0]

/-- what a region reads -/
def SP3 (ab rb n1 zz : Nat) (a0 : Int) (b2 : ByteArray) (W : World) : Prop :=
  W.cell? ⟨ab, 0, none⟩ = some (.int .u16 a0) ∧
  (convert 54 9 (.slice (some ⟨rb, 0, none⟩) n1 (n1 + zz))).run Try.prog W = .ok (.string b2) W
theorem SP3.of {ab rb n1 zz : Nat} {a0 a1 : Int} {T : List UInt8} {W : World} {fr : Nat × Nat} (ha : W.heap[ab]? = some (.cells #[.int .u16 a0, .int .u16 a1] 68 (0, 0))) (hr : W.heap[rb]? = some (.cells (rowC T zz) 5 fr)) (hl : T.length = n1) : SP3 ab rb n1 zz a0 (bs T) W := by
  refine ⟨cell_of_block ha 0, conv_bytes W rb 0 n1 _ T hl (fun i hi => ?_)⟩
  rw [Nat.zero_add, cell_of_block hr, rowC_at T zz i (by omega)]
theorem four_strings {W : World} {sb t : Nat} {b0 b1 b2 b3 : ByteArray} {N : Nat} (h : W.heap[sb]? = some (.cells #[.string b0, .string b1, .string b2, .string b3] t (0, 0)))
    (h0 : ∃ q : List UInt8, b0 = bs q ∧ q.length ≤ N) (h1 : ∃ q : List UInt8, b1 = bs q ∧ q.length ≤ N) (h2 : ∃ q : List UInt8, b2 = bs q ∧ q.length ≤ N) (h3 : ∃ q : List UInt8, b3 = bs q ∧ q.length ≤ N) (i : Nat) (hi : i < 4) :
    ∃ q : List UInt8, q.length ≤ N ∧ W.cell? ⟨sb, i, none⟩ = some (.string (bs q)) := by
  have hc : i = 0 ∨ i = 1 ∨ i = 2 ∨ i = 3 := by omega
  rcases hc with rfl | rfl | rfl | rfl
  · obtain ⟨q, rfl, hq⟩ := h0; exact ⟨q, hq, cell_of_block h 0⟩
  · obtain ⟨q, rfl, hq⟩ := h1; exact ⟨q, hq, cell_of_block h 1⟩
  · obtain ⟨q, rfl, hq⟩ := h2; exact ⟨q, hq, cell_of_block h 2⟩
  · obtain ⟨q, rfl, hq⟩ := h3; exact ⟨q, hq, cell_of_block h 3⟩
theorem three_keeps {W : World} {sb t : Nat} (h : W.heap[sb]? = some (.cells #[.int .i64 4, .int .i64 2, .int .i64 65] t (0, 0))) (i : Nat) (hi : i < 3) :
    ∃ kp : Int, ((1 ≤ kp ∧ kp ≤ 64) ∨ kp = 65) ∧ W.cell? ⟨sb, i, none⟩ = some (.int .i64 kp) := by
  have hc : i = 0 ∨ i = 1 ∨ i = 2 := by omega
  rcases hc with rfl | rfl | rfl
  · exact ⟨4, .inl (by omega), cell_of_block h 0⟩
  · exact ⟨2, .inl (by omega), cell_of_block h 1⟩
  · exact ⟨65, .inr rfl, cell_of_block h 2⟩
theorem wpList_rowLoadG2 {P : Program} {ops : Array Oper} {rest : List Oper} {o : Oper} {a : Act} {w : World} {Q : Exit → Act → World → Prop} (hw : Region.wanted o (yielded ops a.tmps) = true) (ty : TypeId) (x : Operand) (ho : o.op = .load ty x)
    (g : Nat) (hx : a.eval x = .pointer (some ⟨g, 0, none⟩)) (t : TypeId) (cs : Array Value) (fr : Nat × Nat) (d : TypeDesc) (hg : w.heap[g]? = some (.cells cs t fr))
    (hu : P.underlying ty = some d) (hd : (match d with | .struct _ | .array _ _ => true | _ => false) = true) (hi : (P.info? ty).map (·.size) = some cs.size)
    (h : wpList P ops Q rest (a.put o.dst (.agg cs)) w) : wpList P ops Q (o :: rest) a w :=
  wpList_step fun _ hK => by
    rw [if_pos hw]
    exact wp_load_row ty x ho g hx t cs fr d hg hu hd hi (hK _ _ h)
theorem left_is (r : Nat) (l : List UInt8) (w : World) (h : RQ w r true l) : l.length ≤ 1000000 ∧ Calls Try.prog 26 #[.pointer (some ⟨r, 0, none⟩)] w fun e w' => e = .returned (.int .i64 (l.length : Int)) ∧ w = w' := by
  obtain ⟨s, h1, h2, h3⟩ := h
  have := h2 rfl
  subst this
  refine ⟨by rw [bs_size] at h3; exact h3, ?_⟩
  have h := left_any r (bs l) false w h1
  rw [if_neg (by decide), bs_size] at h
  exact h
theorem wrap_back2 (m : Nat) (r : Int) (hm : m ≤ 1000000) (h0 : 0 ≤ r) (h1 : r ≤ 1000000) : wrap64 r = r ∧ (m : Int) - ((m : Int) - r) = r := by
  refine ⟨?_, by omega⟩
  unfold wrap64; omega
theorem turn_place (a0 : Int) (h0 : 0 ≤ a0) (n1 : Nat) (hn : 1 ≤ n1) : ∃ i : Nat, i < n1 ∧ a0.tmod (n1 : Int) = (i : Int) := by
  obtain ⟨i, hi⟩ := Int.eq_ofNat_of_zero_le (show 0 ≤ a0 % (n1 : Int) from Int.emod_nonneg _ (by omega))
  have h2 := Int.emod_lt_of_pos a0 (show (0 : Int) < (n1 : Int) by omega)
  exact ⟨i, by omega, by rw [Int.tmod_eq_emod_of_nonneg h0]; exact hi⟩
theorem bs_to (l : List UInt8) (b : Nat) : (bs l).extract 0 b = bs (l.take b) := by
  apply ByteArray.ext
  simp [bs]
set_option maxRecDepth 100000 in
set_option maxHeartbeats 16000000 in
theorem shiftReads_walk (s : ByteArray) (hs : s.size ≤ 9223372036854775807) (v1 : Value) (a0 a1 : Int) (a00 : 0 ≤ a0) (a01 : a0 ≤ 65535) (a10 : 0 ≤ a1) (a11 : a1 ≤ 65535) (W0 : World) (hz : ActsS W0 v1) :
    Calls Try.prog 4 #[.string s, v1, .agg #[.int .u16 a0, .int .u16 a1]] W0 fun e w' => e = .returned (.bool true) ∧ Below W0.heap.size W0 w' := by
  obtain ⟨al, AL, acap, rfl, hcap, h63, hin, hok⟩ := hz
  generalize W0 = w at *
  obtain ⟨n, hn⟩ : ∃ n : Nat, min AL.length 20 = n := ⟨_, rfl⟩
  have hmF : (if (20 : Int) < (AL.length : Int) then (20 : Int) else (AL.length : Int)) = (n : Int) := by split <;> omega
  have hmI : min (AL.length : Int) 20 = (n : Int) := by omega
  have hn9 : n ≤ 20 := by omega
  have hnl : n ≤ AL.length := by omega
  have hcI : (n : Int) ≤ (acap : Int) := by omega
  have HIN := hide hin
  have HOK := hide hok
  clear hin hok hn
  obtain ⟨q, hq⟩ : ∃ q, w.heap.size = q := ⟨_, rfl⟩
  have HQ := hide hq
  clear hq
  -- the text that comes in, cut
  obtain ⟨m, hm⟩ : ∃ m : Nat, min s.size 200 = m := ⟨_, rfl⟩
  have hmsI : min (s.size : Int) 200 = (m : Int) := by omega
  have hmsF : (if (200 : Int) < (s.size : Int) then (200 : Int) else (s.size : Int)) = (m : Int) := by split <;> omega
  have hmle : (m : Int) ≤ (s.size : Int) := by omega
  obtain ⟨Rr, hRl, hRe⟩ : ∃ Rr : List UInt8, Rr.length ≤ 200 ∧ s.extract 0 m = bs Rr := by
    refine ⟨s.data.toList.take m, by rw [List.length_take]; omega, ?_⟩
    conv => lhs; rw [← bs_of s]
    exact bs_to _ _
  clear hm
  have XK1 := hide (heap_new w (.cells #[.int .u16 a0, .int .u16 a1] 68))
  have BK1 := hide ((Below.refl w.heap.size w).alloc (Nat.le_refl _) (.cells #[.int .u16 a0, .int .u16 a1] 68))
  go_enter Try.func4, Try.ntmps4
  go_upto_region 2 with (fail)
  (try rw [hRe])
  clear hRe hmsI hmsF hmle hs
  rw [HQ.out] at XK1 BK1 ⊢
  have HSZ1 := hide (show q ≤ (w.alloc (.cells #[.int .u16 a0, .int .u16 a1] 68)).heap.size from by rw [← HQ.out]; simp)
  generalize w.alloc (.cells #[.int .u16 a0, .int .u16 a1] 68) = w1 at *
  obtain ⟨kb, hkb⟩ : ∃ kb, q = kb := ⟨_, rfl⟩
  have HKB := hide hkb
  have XK1 := hide (show w1.heap[kb]? = some (.cells #[.int .u16 a0, .int .u16 a1] 68 (0, 0)) from by rw [← hkb]; exact XK1.out)
  rw [show (Value.pointer (some ⟨q, 0, none⟩)) = .pointer (some ⟨kb, 0, none⟩) from by rw [hkb]]
  clear hkb
  obtain ⟨ox, hox⟩ : ∃ o, o = Obj.cells #[.int .i64 4, .int .i64 1, .bool false, .int .i64 0, .int .i64 0, .int .i64 0, .int .i64 0, .int .i64 0, .int .i64 0, .slice none 0 0] 32 := ⟨_, rfl⟩
  have hal := (Below.refl w1.heap.size w1).alloc (Nat.le_refl _) ox
  have D2 := hide (show MdAt (w1.alloc ox) w1.heap.size ⟨4, 1, false, tot0, []⟩ tot0 none 0 from ⟨by rw [heap_new, hox]; rfl, ⟨World.ownsRow_nil _ _ _ _, fun h => by cases h⟩⟩)
  have K2 := hide ((hal.block _ (heap_lt XK1.out)).trans XK1.out)
  have B2 := hide (BK1.out.trans (hal.mono HSZ1.out))
  have HSZ2 := hide (Nat.le_trans HSZ1.out hal.size)
  have HQM := hide HSZ1.out
  have HMK := hide (show w1.heap.size ≠ kb from fun e => by have := heap_lt XK1.out; omega)
  have HOK0 := hide (show ShOk ⟨4, 1, false, tot0, []⟩ from ⟨by decide, by decide, by decide, by decide, tot0_ok, fun t ht => by cases ht⟩)
  clear hal XK1 BK1 HSZ1
  go_upto_region 3 with (fail)
  rw [← hox]
  clear hox
  generalize w1.alloc ox = w2 at *
  obtain ⟨mb, hmb⟩ : ∃ k, w1.heap.size = k := ⟨_, rfl⟩
  rw [hmb] at D2 HQM HMK ⊢
  clear hmb ox
  go_wp2_with fail
  clear hmF hmI
  go_loopw [47] (fun i W => ∃ (j : Nat) (M : ShM) (nw : TotM) (a : Option Addr) (cp : Nat), j ≤ n ∧ i = .int .i64 j ∧ MdAt W mb M nw a cp ∧ W.heap[kb]? = some (.cells #[.int .u16 a0, .int .u16 a1] 68 (0, 0)) ∧ Below q w W ∧ q ≤ W.heap.size ∧ ShOk M) (fun i _ => n - (intOf i).toNat)
  case atStart => exact ⟨0, _, _, _, _, by omega, rfl, D2.out, K2.out, B2.out, HSZ2.out, HOK0.out⟩
  case round =>
    obtain ⟨j, M, nw, a, cp, hj, rfl, hd, hk, hb, hsz, hokm⟩ := hrel
    have D1 := hide hd
    have K1 := hide hk
    have B1 := hide hb
    have HSZ1 := hide hsz
    have HOKM := hide hokm
    clear hd hk hb hsz hokm D2 K2 B2 HSZ2 HOK0
    by_cases hlt : j < n
    · have HJN := hide hlt
      obtain ⟨b, off, rfl, hbl, c0, c1, c2⟩ := (HIN.out.below (show Below w.heap.size w wr by rw [HQ.out]; exact B1.out)) j (by omega)
      have HOX := hide (HOK.out (AL.getD j actS0) (by have : j < AL.length := by omega
                                                      simp [List.getD, this]))
      generalize AL.getD j actS0 = x at *
      obtain ⟨xd, xk, xa⟩ := x
      dsimp only at *
      obtain ⟨ob, hob⟩ : ∃ ob, ob = (Obj.cells #[.int .i64 xd, .int .u8 xk, .int .i64 xa] 35) := ⟨_, rfl⟩
      have hal := (Below.refl wr.heap.size wr).alloc (Nat.le_refl _) ob
      have X0 := hide (show (wr.alloc ob).heap[wr.heap.size]? = some (.cells #[.int .i64 xd, .int .u8 xk, .int .i64 xa] 35 (0, 0)) by rw [heap_new, hob])
      have D2 := hide (D1.out.below hal)
      have K2 := hide ((hal.block _ (heap_lt K1.out)).trans K1.out)
      have B2 := hide (B1.out.trans (hal.mono HSZ1.out))
      have HSZ2 := hide (Nat.le_trans HSZ1.out hal.size)
      clear hal D1 K1 B1 HSZ1
      go_upto_region 6 with (fail)
      rw [← hob]
      clear c0 c1 c2 hbl hob
      generalize wr.alloc ob = w2 at *
      obtain ⟨ab, hab⟩ : ∃ k, wr.heap.size = k := ⟨_, rfl⟩
      rw [hab] at X0 ⊢
      clear hab ob
      have d0 := cell_of_block X0.out 0
      obtain ⟨hd0, hk0, ha0⟩ := HOX.out
      dsimp only at hd0 hk0 ha0
      have HST := hide (fun W h2 => rsstart_any M nw a cp W HOKM.out h2)
      have HEN := hide (fun W h2 => rsend_any M nw a cp W HOKM.out h2)
      have HRA := hide (fun W h2 => rsadd_any xk xa hk0 ha0 M nw a cp W HOKM.out h2)
      unfold rsV at HST HEN HRA
      unfold inR at hd0
      obtain ⟨u, huF, huI, hu0⟩ : ∃ u : Int, (if 0 < xd then xd else 0) = u ∧ max 0 xd = u ∧ 0 ≤ u := ⟨max 0 xd, by split <;> omega, rfl, by omega⟩
      obtain ⟨s5, hs1, hs2, hs3⟩ : ∃ r : Int, u.tmod 5 = r ∧ 0 ≤ r ∧ r ≤ 4 := ⟨_, rfl, by rw [Int.tmod_eq_emod_of_nonneg hu0]; omega, by rw [Int.tmod_eq_emod_of_nonneg hu0]; omega⟩
      go_upto_block 2 with (fail)
      clear huF huI hs1 hu0 hd0 hk0 ha0 d0
      by_cases r3 : s5 = 3
      · subst r3
        as_aux_lemma =>
          go_wp2_with (refine rw_load rfl 32 (.tmp 7) rfl mb rfl 32 #[.int .i64 M.keep, .int .i64 M.next, .bool M.op, .int .i64 nw.c, .int .i64 nw.s, .int .i64 nw.v, .int .i64 nw.r, .int .i64 nw.i, .int .i64 nw.o, .slice a M.L.length cp] (0, 0) _ D2.out.1 Try.underlying32 rfl (by kernel_rfl) ?_)
          refine (HST.out _ D2.out.2).mono ?_
          rintro e w6 ⟨nw', rfl, hr, hb⟩
          have R6 := hide hr
          have D6 := hide (D2.out.below hb)
          have K6 := hide ((hb.block _ (heap_lt K2.out)).trans K2.out)
          have B6 := hide (B2.out.trans (hb.mono HSZ2.out))
          have HSZ6 := hide (Nat.le_trans HSZ2.out hb.size)
          clear hb hr D2 K2 B2 HSZ2
          unfold rsV
          go_wp2_with (refine rw_store rfl 32 (.tmp 7) (.tmp 69) rfl mb rfl #[.int .i64 (shStartM M).keep, .int .i64 (shStartM M).next, .bool (shStartM M).op, .int .i64 nw'.c, .int .i64 nw'.s, .int .i64 nw'.v, .int .i64 nw'.r, .int .i64 nw'.i, .int .i64 nw'.o, .slice a (shStartM M).L.length cp] rfl _ D6.out.1 (by kernel_rfl) rfl (rs_ones _ _ _ _ _ _ _ _ _ _ _ _) ?_)
          have hts := setRow_same (cs := #[.int .i64 (shStartM M).keep, .int .i64 (shStartM M).next, .bool (shStartM M).op, .int .i64 nw'.c, .int .i64 nw'.s, .int .i64 nw'.v, .int .i64 nw'.r, .int .i64 nw'.i, .int .i64 nw'.o, .slice a (shStartM M).L.length cp]) D6.out.1
          have hto := setRow_only w6 mb #[.int .i64 (shStartM M).keep, .int .i64 (shStartM M).next, .bool (shStartM M).op, .int .i64 nw'.c, .int .i64 nw'.s, .int .i64 nw'.v, .int .i64 nw'.r, .int .i64 nw'.i, .int .i64 nw'.o, .slice a (shStartM M).L.length cp]
          have hkt := only_keeps (Ts := [32]) D6.out.1 (by decide) hto
          have D7 := hide (show MdAt (w6.setRow mb #[.int .i64 (shStartM M).keep, .int .i64 (shStartM M).next, .bool (shStartM M).op, .int .i64 nw'.c, .int .i64 nw'.s, .int .i64 nw'.v, .int .i64 nw'.r, .int .i64 nw'.i, .int .i64 nw'.o, .slice a (shStartM M).L.length cp]) mb (shStartM M) nw' a cp from ⟨hts, R6.out.keepsT hkt (by decide)⟩)
          have K7 := hide ((hto.block _ (heap_lt K6.out) HMK.out.symm).trans K6.out)
          have B7 := hide (hto.below B6.out HQM.out HSZ6.out)
          have HSZ7 := hide (Nat.le_trans HSZ6.out hto.size)
          have HOK7 := hide (shStart_ok HOKM.out)
          clear hts hto hkt D6 K6 B6 HSZ6 R6
          go_roundw
          case rel => exact ⟨j + 1, shStartM M, nw', a, cp, by have := HJN.out; omega, by go_num, D7.out, K7.out, B7.out, HSZ7.out, HOK7.out⟩
          case measure => have := HJN.out; simp [intOf]; omega
      by_cases r4 : s5 = 4
      · subst r4
        as_aux_lemma =>
          go_wp2_with (refine rw_load rfl 32 (.tmp 7) rfl mb rfl 32 #[.int .i64 M.keep, .int .i64 M.next, .bool M.op, .int .i64 nw.c, .int .i64 nw.s, .int .i64 nw.v, .int .i64 nw.r, .int .i64 nw.i, .int .i64 nw.o, .slice a M.L.length cp] (0, 0) _ D2.out.1 Try.underlying32 rfl (by kernel_rfl) ?_)
          refine (HEN.out _ D2.out.2).mono ?_
          rintro e w6 ⟨nw', a', cp', rfl, hr, hb⟩
          have R6 := hide hr
          have D6 := hide (D2.out.below hb)
          have K6 := hide ((hb.block _ (heap_lt K2.out)).trans K2.out)
          have B6 := hide (B2.out.trans (hb.mono HSZ2.out))
          have HSZ6 := hide (Nat.le_trans HSZ2.out hb.size)
          clear hb hr D2 K2 B2 HSZ2
          unfold rsV
          go_wp2_with (refine rw_store rfl 32 (.tmp 7) (.tmp 77) rfl mb rfl #[.int .i64 (shEndM M).keep, .int .i64 (shEndM M).next, .bool (shEndM M).op, .int .i64 nw'.c, .int .i64 nw'.s, .int .i64 nw'.v, .int .i64 nw'.r, .int .i64 nw'.i, .int .i64 nw'.o, .slice a' (shEndM M).L.length cp'] rfl _ D6.out.1 (by kernel_rfl) rfl (rs_ones _ _ _ _ _ _ _ _ _ _ _ _) ?_)
          have hts := setRow_same (cs := #[.int .i64 (shEndM M).keep, .int .i64 (shEndM M).next, .bool (shEndM M).op, .int .i64 nw'.c, .int .i64 nw'.s, .int .i64 nw'.v, .int .i64 nw'.r, .int .i64 nw'.i, .int .i64 nw'.o, .slice a' (shEndM M).L.length cp']) D6.out.1
          have hto := setRow_only w6 mb #[.int .i64 (shEndM M).keep, .int .i64 (shEndM M).next, .bool (shEndM M).op, .int .i64 nw'.c, .int .i64 nw'.s, .int .i64 nw'.v, .int .i64 nw'.r, .int .i64 nw'.i, .int .i64 nw'.o, .slice a' (shEndM M).L.length cp']
          have hkt := only_keeps (Ts := [32]) D6.out.1 (by decide) hto
          have D7 := hide (show MdAt (w6.setRow mb #[.int .i64 (shEndM M).keep, .int .i64 (shEndM M).next, .bool (shEndM M).op, .int .i64 nw'.c, .int .i64 nw'.s, .int .i64 nw'.v, .int .i64 nw'.r, .int .i64 nw'.i, .int .i64 nw'.o, .slice a' (shEndM M).L.length cp']) mb (shEndM M) nw' a' cp' from ⟨hts, R6.out.keepsT hkt (by decide)⟩)
          have K7 := hide ((hto.block _ (heap_lt K6.out) HMK.out.symm).trans K6.out)
          have B7 := hide (hto.below B6.out HQM.out HSZ6.out)
          have HSZ7 := hide (Nat.le_trans HSZ6.out hto.size)
          have HOK7 := hide (shEnd_ok HOKM.out)
          clear hts hto hkt D6 K6 B6 HSZ6 R6
          go_roundw
          case rel => exact ⟨j + 1, shEndM M, nw', a', cp', by have := HJN.out; omega, by go_num, D7.out, K7.out, B7.out, HSZ7.out, HOK7.out⟩
          case measure => have := HJN.out; simp [intOf]; omega
      · have r3b : (s5 == 3) = false := beq_eq_false_iff_ne.mpr r3
        have r4b : (s5 == 4) = false := beq_eq_false_iff_ne.mpr r4
        clear r3 r4 hs2 hs3
        as_aux_lemma =>
          have d1 := cell_of_block X0.out 1
          have d2 := cell_of_block X0.out 2
          go_wp2_with (refine rw_load rfl 32 (.tmp 7) rfl mb rfl 32 #[.int .i64 M.keep, .int .i64 M.next, .bool M.op, .int .i64 nw.c, .int .i64 nw.s, .int .i64 nw.v, .int .i64 nw.r, .int .i64 nw.i, .int .i64 nw.o, .slice a M.L.length cp] (0, 0) _ D2.out.1 Try.underlying32 rfl (by kernel_rfl) ?_)
          refine (HRA.out _ D2.out.2).mono ?_
          rintro e w6 ⟨nw', rfl, hr, hb⟩
          clear d1 d2
          have R6 := hide hr
          have D6 := hide (D2.out.below hb)
          have K6 := hide ((hb.block _ (heap_lt K2.out)).trans K2.out)
          have B6 := hide (B2.out.trans (hb.mono HSZ2.out))
          have HSZ6 := hide (Nat.le_trans HSZ2.out hb.size)
          clear hb hr D2 K2 B2 HSZ2
          unfold rsV
          go_wp2_with (refine rw_store rfl 32 (.tmp 7) (.tmp 62) rfl mb rfl #[.int .i64 (shAddM M xk xa).keep, .int .i64 (shAddM M xk xa).next, .bool (shAddM M xk xa).op, .int .i64 nw'.c, .int .i64 nw'.s, .int .i64 nw'.v, .int .i64 nw'.r, .int .i64 nw'.i, .int .i64 nw'.o, .slice a (shAddM M xk xa).L.length cp] rfl _ D6.out.1 (by kernel_rfl) rfl (rs_ones _ _ _ _ _ _ _ _ _ _ _ _) ?_)
          have hts := setRow_same (cs := #[.int .i64 (shAddM M xk xa).keep, .int .i64 (shAddM M xk xa).next, .bool (shAddM M xk xa).op, .int .i64 nw'.c, .int .i64 nw'.s, .int .i64 nw'.v, .int .i64 nw'.r, .int .i64 nw'.i, .int .i64 nw'.o, .slice a (shAddM M xk xa).L.length cp]) D6.out.1
          have hto := setRow_only w6 mb #[.int .i64 (shAddM M xk xa).keep, .int .i64 (shAddM M xk xa).next, .bool (shAddM M xk xa).op, .int .i64 nw'.c, .int .i64 nw'.s, .int .i64 nw'.v, .int .i64 nw'.r, .int .i64 nw'.i, .int .i64 nw'.o, .slice a (shAddM M xk xa).L.length cp]
          have hkt := only_keeps (Ts := [32]) D6.out.1 (by decide) hto
          have D7 := hide (show MdAt (w6.setRow mb #[.int .i64 (shAddM M xk xa).keep, .int .i64 (shAddM M xk xa).next, .bool (shAddM M xk xa).op, .int .i64 nw'.c, .int .i64 nw'.s, .int .i64 nw'.v, .int .i64 nw'.r, .int .i64 nw'.i, .int .i64 nw'.o, .slice a (shAddM M xk xa).L.length cp]) mb (shAddM M xk xa) nw' a cp from ⟨hts, R6.out.keepsT hkt (by decide)⟩)
          have K7 := hide ((hto.block _ (heap_lt K6.out) HMK.out.symm).trans K6.out)
          have B7 := hide (hto.below B6.out HQM.out HSZ6.out)
          have HSZ7 := hide (Nat.le_trans HSZ6.out hto.size)
          have HOK7 := hide (shAdd_ok (k := xk) (am := xa) HOKM.out)
          clear hts hto hkt D6 K6 B6 HSZ6 R6
          go_roundw
          case rel => exact ⟨j + 1, shAddM M xk xa, nw', a, cp, by have := HJN.out; omega, by go_num, D7.out, K7.out, B7.out, HSZ7.out, HOK7.out⟩
          case measure => have := HJN.out; simp [intOf]; omega
    · obtain rfl : j = n := by omega
      clear hlt HIN HOK
      have HTX := hide (fun W h2 => rshtext M HOKM.out nw a cp W h2)
      obtain ⟨sL, hsL, hl1, hl2⟩ := text_some HOKM.out
      unfold rsV at HTX
      rw [hsL] at HTX
      clear hsL
      go_wp2_with (refine rw_load rfl 32 (.tmp 7) rfl mb rfl 32 #[.int .i64 M.keep, .int .i64 M.next, .bool M.op, .int .i64 nw.c, .int .i64 nw.s, .int .i64 nw.v, .int .i64 nw.r, .int .i64 nw.i, .int .i64 nw.o, .slice a M.L.length cp] (0, 0) _ D1.out.1 Try.underlying32 rfl (by kernel_rfl) ?_)
      refine (HTX.out _ D1.out.2).mono ?_
      rintro e w4 ⟨rfl, hb⟩
      have K4 := hide ((hb.block _ (heap_lt K1.out)).trans K1.out)
      have B4 := hide (B1.out.trans (hb.mono HSZ1.out))
      have HSZ4 := hide (Nat.le_trans HSZ1.out hb.size)
      clear hb HTX D1 K1 B1 HSZ1 HOKM HQM HMK
      obtain ⟨n1, hn1⟩ : ∃ n1 : Nat, sL.length = n1 := ⟨_, rfl⟩
      have HN1 := hide (show 1 ≤ n1 ∧ n1 ≤ 200000 from by omega)
      obtain ⟨zz, w5, hcv, hb5, hs5, hrow⟩ := conv_text w4 (bs sL)
      have hsz3 : (bs sL).size = n1 := by rw [bs_size, hn1]
      rw [hsz3] at hcv hrow
      rw [show (bs sL).data.toList = sL from rfl] at hrow
      have B5 := hide (B4.out.trans (hb5.mono HSZ4.out))
      have K5 := hide ((hb5.block _ (heap_lt K4.out)).trans K4.out)
      have HSZ5 := hide (Nat.le_trans HSZ4.out hb5.size)
      have HRW := hide hrow
      have hkbl := heap_lt K4.out
      obtain ⟨i, hin1, hit⟩ := turn_place a0 a00 n1 HN1.out.1
      have HEX := hide (bs_to sL i)
      obtain ⟨x', hx'⟩ := xor_byte (sL.getD i 0) (a1 % 256) (Int.emod_nonneg _ (by omega)) (by have := Int.emod_lt_of_pos a1 (show (0 : Int) < 256 by omega); omega)
      have x0 : w5.cell? ⟨kb, 0, none⟩ = some (.int .u16 a0) := cell_of_block K5.out 0
      have x1 : w5.cell? ⟨kb, 1, none⟩ = some (.int .u16 a1) := cell_of_block K5.out 1
      have y0 : w5.cell? ⟨w4.heap.size, i, none⟩ = some (.int .u8 ((sL.getD i 0).toNat : Int)) := by rw [cell_of_block HRW.out, rowC_at _ zz i (by omega)]
      have hfr : w5.frozen? ⟨w4.heap.size, i, none⟩ = false := by simp only [World.frozen?, HRW.out]; simp; omega
      have hiI : (i : Int) < (n1 : Int) := by omega
      have hn0 : ¬ (n1 : Int) = 0 := by omega
      have HTL := hide (show (sL.set i x').length = n1 by rw [List.length_set]; exact hn1)
      have HR6 := hide (show (w5.setCell ⟨w4.heap.size, i, none⟩ (.int .u8 (x'.toNat : Int))).heap[w4.heap.size]? = some (.cells (rowC (sL.set i x') zz) 5 (n1 + zz, n1 + zz + 1)) from by
        rw [← rowC_set sL zz i (by omega) x']
        exact block_setCell HRW.out _ _)
      have HA6 := hide (show (w5.setCell ⟨w4.heap.size, i, none⟩ (.int .u8 (x'.toNat : Int))).heap[kb]? = some (.cells #[.int .u16 a0, .int .u16 a1] 68 (0, 0)) from by
        rw [block_setCell_other (by omega)]; exact K5.out)
      have HB6 := hide (B5.out.setCell (p := ⟨w4.heap.size, i, none⟩) (show q ≤ w4.heap.size from HSZ4.out) (.int .u8 (x'.toNat : Int)))
      have HSZ6 := hide (show q ≤ (w5.setCell ⟨w4.heap.size, i, none⟩ (.int .u8 (x'.toNat : Int))).heap.size from by simpa using HSZ5.out)
      have hwa : IntKind.i64.wrap a0 = a0 := by rw [IntKind.wrap_i64]; omega
      clear hrow hb5 hs5 HRW K4 B4 HSZ4 hsz3
      generalize (sL.getD i 0).toNat = xv at *
      generalize sL.set i x' = T' at *
      have hss : ((bs sL).size : Int) = (n1 : Int) := by rw [bs_size, hn1]
      go_upto_region 15 with (fail)
      go_region
      have HR7 := hide (show (w5.setCell ⟨w4.heap.size, i, none⟩ (.int .u8 (x'.toNat : Int))).drew.heap[w4.heap.size]? = _ from HR6.out)
      have HA7 := hide (show (w5.setCell ⟨w4.heap.size, i, none⟩ (.int .u8 (x'.toNat : Int))).drew.heap[kb]? = _ from HA6.out)
      have HB7 := hide HB6.out.drew
      have HSZ7 := hide (show q ≤ (w5.setCell ⟨w4.heap.size, i, none⟩ (.int .u8 (x'.toNat : Int))).drew.heap.size from HSZ6.out)
      clear HR6 HA6 HB6 HSZ6 K5 B5 HSZ5 x0 x1 y0 hfr hcv hx' hkbl
      generalize (w5.setCell ⟨w4.heap.size, i, none⟩ (.int .u8 (x'.toNat : Int))).drew = w9 at *
      generalize w4.heap.size = rb at *
      have H0 := hide (show ∃ p : List UInt8, bs Rr = bs p ∧ p.length ≤ 400000 from ⟨Rr, rfl, by omega⟩)
      have H1 := hide (show ∃ p : List UInt8, bs (sL ++ Rr) = bs p ∧ p.length ≤ 400000 from ⟨_, rfl, by rw [List.length_append]; omega⟩)
      have H2 := hide (show ∃ p : List UInt8, bs T' = bs p ∧ p.length ≤ 400000 from ⟨_, rfl, by rw [HTL.out]; omega⟩)
      have H3 := hide (show ∃ p : List UInt8, bs (sL.take i) = bs p ∧ p.length ≤ 400000 from ⟨_, rfl, by rw [List.length_take]; omega⟩)
      have hszr : ¬ 9223372036854775807 < (bs sL).size + (bs Rr).size := by rw [bs_size, bs_size]; omega
      have hcatr : bs sL ++ bs Rr = bs (sL ++ Rr) := bs_append _ _
      have hex := HEX.out
      have HSPF := hide (fun (W : World) (h1 : W.heap[kb]? = some (.cells #[.int .u16 a0, .int .u16 a1] 68 (0, 0))) (h2 : W.heap[rb]? = some (.cells (rowC T' zz) 5 (n1 + zz, n1 + zz + 1))) => SP3.of h1 h2 HTL.out)
      clear hn1 hl1 hl2 hRl HTL HEX
      generalize bs (sL.take i) = b3 at *
      generalize bs T' = b2 at *
      generalize bs (sL ++ Rr) = b1 at *
      generalize bs sL = b9 at *
      generalize bs Rr = b0 at *
      have HHH := hide (And.intro hss (And.intro hszr (And.intro hcatr (And.intro hex (And.intro hit (And.intro hwa (And.intro hiI (And.intro hn0 (And.intro (show ¬ n1 = 0 from by omega) (show i ≤ n1 from by omega))))))))))
      clear hss hszr hcatr hex hit hwa hiI hn0 hin1
      obtain ⟨oy, hoy⟩ : ∃ o, o = Obj.cells #[.int .i64 4, .int .i64 2, .int .i64 65] 3 := ⟨_, rfl⟩
      have hal := (Below.refl w9.heap.size w9).alloc (Nat.le_refl _) oy
      have L8 := hide (show (w9.alloc oy).heap[w9.heap.size]? = some (.cells #[.int .i64 4, .int .i64 2, .int .i64 65] 3 (0, 0)) by rw [heap_new, hoy])
      have R8 := hide ((hal.block _ (heap_lt HR7.out)).trans HR7.out)
      have K8 := hide ((hal.block _ (heap_lt HA7.out)).trans HA7.out)
      have B8 := hide (HB7.out.trans (hal.mono HSZ7.out))
      have HSZ8 := hide (Nat.le_trans HSZ7.out hal.size)
      clear hal HR7 HA7 HB7 HSZ7
      go_wp2_with fail
      rw [← hoy]
      clear hoy
      generalize w9.alloc oy = w8 at *
      generalize w9.heap.size = kl at *
      clear oy
      go_loopw [102] (fun i W => ∃ k : Nat, k ≤ 3 ∧ i = .int .i64 k ∧ W.heap[kl]? = some (.cells #[.int .i64 4, .int .i64 2, .int .i64 65] 3 (0, 0)) ∧ W.heap[rb]? = some (.cells (rowC T' zz) 5 (n1 + zz, n1 + zz + 1)) ∧ W.heap[kb]? = some (.cells #[.int .u16 a0, .int .u16 a1] 68 (0, 0)) ∧ Below q w W ∧ q ≤ W.heap.size) (fun i _ => 3 - (intOf i).toNat)
      case atStart => exact ⟨0, by omega, rfl, L8.out, R8.out, K8.out, B8.out, HSZ8.out⟩
      case round =>
        obtain ⟨k, hk, rfl, hl, hr, hk9, hb, hsz⟩ := hrel
        have L1 := hide hl
        have R1 := hide hr
        have K1 := hide hk9
        have B1 := hide hb
        have HSZ1 := hide hsz
        clear hl hr hk9 hb hsz L8 R8 K8 B8 HSZ8
        by_cases hlt : k < 3
        · have HLT := hide hlt
          obtain ⟨kp, hkp, hcell⟩ := three_keeps L1.out k hlt
          have HKP := hide hkp
          clear hkp
          go_upto_region 19 with (fail)
          clear hcell hlt
          obtain ⟨hss, hszr, hcatr, hex, hit, hwa, hiI, hn0, hn0n, hin0⟩ := HHH.out
          have HAv0 := hide (show wr.drew.heap[kb]? = _ from K1.out)
          have HRv0 := hide (show wr.drew.heap[rb]? = _ from R1.out)
          have HKv0 := hide (show wr.drew.heap[kl]? = _ from L1.out)
          have HSPv0 := hide (HSPF.out _ HAv0.out HRv0.out)
          have HBv0 := hide B1.out.drew
          have HSZv0 := hide (show q ≤ wr.drew.heap.size from HSZ1.out)
          clear K1 R1 L1 B1 HSZ1
          refine wp_region_held_drew (S := (SP3 kb rb n1 zz a0 b2)) (by kernel_rfl) (HSPv0.out) (fun hHeld => ?_)
          generalize wr.drew = v0 at *
          refine wpAnyH_take (i := 0) (oi := { dst := some 106, op := Op.move (Operand.tmp 0), type := 9, pos := "law.go:116", after := #[], guard := none }) (v := ?_) rfl (by kernel_rfl) (by kernel_rfl) (by kernel_rfl) (fun _ _ _ h => h) (Or.inl ⟨by kernel_rfl, ?_⟩) hHeld ?_
          rotate_left
          · (intro w hSw; (try dsimp only at hSw); (try unfold SP3 at hSw); go_simp); try with_reducible rfl
          try simp only [Act.put, List.setIfInBounds_toArray, List.set_cons_zero, List.set_cons_succ]
          refine wpAnyH_take (i := 1) (oi := { dst := some 107, op := Op.move (Operand.tmp 10), type := 9, pos := "law.go:116", after := #[], guard := none }) (v := ?_) rfl (by kernel_rfl) (by kernel_rfl) (by kernel_rfl) (fun _ _ _ h => h) (Or.inl ⟨by kernel_rfl, ?_⟩) hHeld ?_
          rotate_left
          · (intro w hSw; (try dsimp only at hSw); (try unfold SP3 at hSw); go_simp); try with_reducible rfl
          try simp only [Act.put, List.setIfInBounds_toArray, List.set_cons_zero, List.set_cons_succ]
          refine wpAnyH_take (i := 2) (oi := { dst := some 108, op := Op.move (Operand.tmp 0), type := 9, pos := "law.go:116", after := #[], guard := none }) (v := ?_) rfl (by kernel_rfl) (by kernel_rfl) (by kernel_rfl) (fun _ _ _ h => h) (Or.inl ⟨by kernel_rfl, ?_⟩) hHeld ?_
          rotate_left
          · (intro w hSw; (try dsimp only at hSw); (try unfold SP3 at hSw); go_simp); try with_reducible rfl
          try simp only [Act.put, List.setIfInBounds_toArray, List.set_cons_zero, List.set_cons_succ]
          refine wpAnyH_take (i := 3) (oi := { dst := some 109, op := Op.binOp BinOp.add 9 (Operand.tmp 107) (Operand.tmp 108) 9, type := 9, pos := "law.go:116", after := #[{ on := 1, ground := Ground.data }, { on := 2, ground := Ground.data }], guard := none }) (v := ?_) rfl (by kernel_rfl) (by kernel_rfl) (by kernel_rfl) (fun _ _ _ h => h) (Or.inl ⟨by kernel_rfl, ?_⟩) hHeld ?_
          rotate_left
          · (intro w hSw; (try dsimp only at hSw); (try unfold SP3 at hSw); go_simp); try with_reducible rfl
          try simp only [Act.put, List.setIfInBounds_toArray, List.set_cons_zero, List.set_cons_succ]
          refine wpAnyH_take (i := 4) (oi := { dst := some 110, op := Op.move (Operand.tmp 11), type := 54, pos := "law.go:116", after := #[], guard := none }) (v := ?_) rfl (by kernel_rfl) (by kernel_rfl) (by kernel_rfl) (fun _ _ _ h => h) (Or.inl ⟨by kernel_rfl, ?_⟩) hHeld ?_
          rotate_left
          · (intro w hSw; (try dsimp only at hSw); (try unfold SP3 at hSw); go_simp); try with_reducible rfl
          try simp only [Act.put, List.setIfInBounds_toArray, List.set_cons_zero, List.set_cons_succ]
          refine wpAnyH_take (i := 5) (oi := { dst := some 111, op := Op.convert 54 9 (Operand.tmp 110), type := 9, pos := "law.go:116", after := #[{ on := 4, ground := Ground.data }], guard := none }) (v := ?_) rfl (by kernel_rfl) (by kernel_rfl) (by kernel_rfl) (fun _ _ _ h => h) (Or.inl ⟨by kernel_rfl, ?_⟩) hHeld ?_
          rotate_left
          · (intro w hSw; (try dsimp only at hSw); (try unfold SP3 at hSw); go_simp); try with_reducible rfl
          try simp only [Act.put, List.setIfInBounds_toArray, List.set_cons_zero, List.set_cons_succ]
          refine wpAnyH_take (i := 6) (oi := { dst := some 112, op := Op.move (Operand.tmp 10), type := 9, pos := "law.go:116", after := #[], guard := none }) (v := ?_) rfl (by kernel_rfl) (by kernel_rfl) (by kernel_rfl) (fun _ _ _ h => h) (Or.inl ⟨by kernel_rfl, ?_⟩) hHeld ?_
          rotate_left
          · (intro w hSw; (try dsimp only at hSw); (try unfold SP3 at hSw); go_simp); try with_reducible rfl
          try simp only [Act.put, List.setIfInBounds_toArray, List.set_cons_zero, List.set_cons_succ]
          refine wpAnyH_take (i := 7) (oi := { dst := some 113, op := Op.indexAddr 68 (Operand.tmp 5) (Operand.const (Value.int IntKind.i64 0)), type := 0, pos := "law.go:116", after := #[], guard := none }) (v := ?_) rfl (by kernel_rfl) (by kernel_rfl) (by kernel_rfl) (fun _ _ _ h => h) (Or.inl ⟨by kernel_rfl, ?_⟩) hHeld ?_
          rotate_left
          · (intro w hSw; (try dsimp only at hSw); (try unfold SP3 at hSw); go_simp); try with_reducible rfl
          try simp only [Act.put, List.setIfInBounds_toArray, List.set_cons_zero, List.set_cons_succ]
          refine wpAnyH_take (i := 8) (oi := { dst := some 114, op := Op.load 67 (Operand.tmp 113), type := 67, pos := "law.go:116", after := #[{ on := 7, ground := Ground.data }], guard := none }) (v := ?_) rfl (by kernel_rfl) (by kernel_rfl) (by kernel_rfl) (fun _ _ _ h => h) (Or.inl ⟨by kernel_rfl, ?_⟩) hHeld ?_
          rotate_left
          · (intro w hSw; (try dsimp only at hSw); (try unfold SP3 at hSw); go_simp); try with_reducible rfl
          try simp only [Act.put, List.setIfInBounds_toArray, List.set_cons_zero, List.set_cons_succ]
          refine wpAnyH_take (i := 9) (oi := { dst := some 115, op := Op.convert 67 3 (Operand.tmp 114), type := 3, pos := "law.go:116", after := #[{ on := 8, ground := Ground.data }], guard := none }) (v := ?_) rfl (by kernel_rfl) (by kernel_rfl) (by kernel_rfl) (fun _ _ _ h => h) (Or.inl ⟨by kernel_rfl, ?_⟩) hHeld ?_
          rotate_left
          · (intro w hSw; (try dsimp only at hSw); (try unfold SP3 at hSw); go_simp); try with_reducible rfl
          try simp only [Act.put, List.setIfInBounds_toArray, List.set_cons_zero, List.set_cons_succ]
          refine wpAnyH_take (i := 10) (oi := { dst := some 116, op := Op.move (Operand.tmp 10), type := 9, pos := "law.go:116", after := #[], guard := none }) (v := ?_) rfl (by kernel_rfl) (by kernel_rfl) (by kernel_rfl) (fun _ _ _ h => h) (Or.inl ⟨by kernel_rfl, ?_⟩) hHeld ?_
          rotate_left
          · (intro w hSw; (try dsimp only at hSw); (try unfold SP3 at hSw); go_simp); try with_reducible rfl
          try simp only [Act.put, List.setIfInBounds_toArray, List.set_cons_zero, List.set_cons_succ]
          refine wpAnyH_take (i := 11) (oi := { dst := some 117, op := Op.call { callee := Callee.builtin Builtin.len, args := #[Operand.tmp 116], argTypes := #[9] }, type := 3, pos := "law.go:116", after := #[{ on := 10, ground := Ground.data }], guard := none }) (v := ?_) rfl (by kernel_rfl) (by kernel_rfl) (by kernel_rfl) (fun _ _ _ h => h) (Or.inl ⟨by kernel_rfl, ?_⟩) hHeld ?_
          rotate_left
          · (intro w hSw; (try dsimp only at hSw); (try unfold SP3 at hSw); go_simp); try with_reducible rfl
          try simp only [Act.put, List.setIfInBounds_toArray, List.set_cons_zero, List.set_cons_succ]
          refine wpAnyH_take (i := 12) (oi := { dst := some 118, op := Op.binOp BinOp.rem 3 (Operand.tmp 115) (Operand.tmp 117) 3, type := 3, pos := "law.go:116", after := #[{ on := 9, ground := Ground.data }, { on := 11, ground := Ground.data }], guard := none }) (v := ?_) rfl (by kernel_rfl) (by kernel_rfl) (by kernel_rfl) (fun _ _ _ h => h) (Or.inl ⟨by kernel_rfl, ?_⟩) hHeld ?_
          rotate_left
          · (intro w hSw; (try dsimp only at hSw); (try unfold SP3 at hSw); go_simp); try with_reducible rfl
          try simp only [Act.put, List.setIfInBounds_toArray, List.set_cons_zero, List.set_cons_succ]
          refine wpAnyH_take (i := 13) (oi := { dst := some 119, op := Op.slice 9 (Operand.tmp 112) none (some (Operand.tmp 118)) none, type := 9, pos := "law.go:116", after := #[{ on := 6, ground := Ground.data }, { on := 12, ground := Ground.data }], guard := none }) (v := ?_) rfl (by kernel_rfl) (by kernel_rfl) (by kernel_rfl) (fun _ _ _ h => h) (Or.inl ⟨by kernel_rfl, ?_⟩) hHeld ?_
          rotate_left
          · (intro w hSw; (try dsimp only at hSw); (try unfold SP3 at hSw); go_simp); try with_reducible rfl
          try simp only [Act.put, List.setIfInBounds_toArray, List.set_cons_zero, List.set_cons_succ]
          refine wpAnyH_take (i := 16) (oi := { dst := some 122, op := Op.move (Operand.const (Value.int IntKind.i64 0)), type := 3, pos := "law.go:116", after := #[], guard := none }) (v := ?_) rfl (by kernel_rfl) (by kernel_rfl) (by kernel_rfl) (fun _ _ _ h => h) (Or.inl ⟨by kernel_rfl, ?_⟩) hHeld ?_
          rotate_left
          · (intro w hSw; (try dsimp only at hSw); (try unfold SP3 at hSw); go_simp); try with_reducible rfl
          try simp only [Act.put, List.setIfInBounds_toArray, List.set_cons_zero, List.set_cons_succ]
          refine wpAnyH_ready (rs := [14]) (by kernel_rfl) (by simp) (AllReadyH.cons (o := { dst := some 120, op := Op.buildSlice 70 4 #[(0, Operand.tmp 106), (1, Operand.tmp 109), (2, Operand.tmp 111), (3, Operand.tmp 119)], type := 70, pos := "law.go:116", after := #[{ on := 0, ground := Ground.data }, { on := 3, ground := Ground.data }, { on := 5, ground := Ground.data }, { on := 13, ground := Ground.data }], guard := none }) rfl (fun K hK => ?_) AllReadyH.nil)
          have hOld := hide hHeld
          clear hHeld
          go_simp
          have HBv2 := hide (HBv0.out.alloc HSZv0.out (.cells #[.string b0, .string b1, .string b2, .string b3] 9))
          have HSZv2 := hide (Nat.le_trans HSZv0.out (show v0.heap.size ≤ (v0.alloc (.cells #[.string b0, .string b1, .string b2, .string b3] 9)).heap.size by simp))
          have HSv2 := hide (heap_new v0 (.cells #[.string b0, .string b1, .string b2, .string b3] 9))
          have HAv2 := hide ((heap_old v0 (.cells #[.string b0, .string b1, .string b2, .string b3] 9) _ (heap_lt HAv0.out)).trans HAv0.out)
          have HRv2 := hide ((heap_old v0 (.cells #[.string b0, .string b1, .string b2, .string b3] 9) _ (heap_lt HRv0.out)).trans HRv0.out)
          have HKv2 := hide ((heap_old v0 (.cells #[.string b0, .string b1, .string b2, .string b3] 9) _ (heap_lt HKv0.out)).trans HKv0.out)
          have HSPv2 := hide (HSPF.out _ HAv2.out HRv2.out)
          generalize hq2 : World.alloc v0 (.cells #[.string b0, .string b1, .string b2, .string b3] 9) = v2 at *
          generalize hb2 : v0.heap.size = ob at *
          clear hq2 hb2
          (try go_wp2_with fail)
          refine hK.out _ _ (HSPv2.out) (fun hHeld => ?_)
          clear hK K hOld
          try simp only [Act.put, List.setIfInBounds_toArray, List.set_cons_zero, List.set_cons_succ]
          refine wpAnyH_take (i := 15) (oi := { dst := some 121, op := Op.call { callee := Callee.builtin Builtin.len, args := #[Operand.tmp 120], argTypes := #[70] }, type := 3, pos := "law.go:116", after := #[{ on := 14, ground := Ground.data }], guard := none }) (v := ?_) rfl (by kernel_rfl) (by kernel_rfl) (by kernel_rfl) (fun _ _ _ h => h) (Or.inl ⟨by kernel_rfl, ?_⟩) hHeld ?_
          rotate_left
          · (intro w hSw; (try dsimp only at hSw); (try unfold SP3 at hSw); go_simp); try with_reducible rfl
          try simp only [Act.put, List.setIfInBounds_toArray, List.set_cons_zero, List.set_cons_succ]
          refine wpAnyH_done (by kernel_rfl) ?_ _
          clear hHeld HSPv0 HAv0 HRv0 HKv0 HBv0 HSZv0 hss hszr hcatr hex hit hwa hiI hn0 hn0n hin0
          go_wp2_with fail
          go_loopw [122] (fun i W => ∃ j : Nat, j ≤ 4 ∧ i = .int .i64 j ∧ W.heap[ob]? = some (.cells #[.string b0, .string b1, .string b2, .string b3] 9 (0, 0)) ∧ W.heap[kl]? = some (.cells #[.int .i64 4, .int .i64 2, .int .i64 65] 3 (0, 0)) ∧ W.heap[rb]? = some (.cells (rowC T' zz) 5 (n1 + zz, n1 + zz + 1)) ∧ W.heap[kb]? = some (.cells #[.int .u16 a0, .int .u16 a1] 68 (0, 0)) ∧ Below q w W ∧ q ≤ W.heap.size) (fun i _ => 4 - (intOf i).toNat)
          case atStart => exact ⟨0, by omega, rfl, HSv2.out, HKv2.out, HRv2.out, HAv2.out, HBv2.out, HSZv2.out⟩
          case round =>
            clear HSv2 HKv2 HRv2 HAv2 HBv2 HSZv2 HSPv2
            obtain ⟨j, hj, rfl, ho, hl, hr, hk9, hb, hsz⟩ := hrel
            have O1 := hide ho
            have G1 := hide (show _ ∧ _ ∧ _ from ⟨hl, hr, hk9⟩)
            have B1 := hide hb
            have HSZ1 := hide hsz
            clear ho hl hr hk9 hb hsz
            by_cases hlt : j < 4
            · have HJL := hide hlt
              obtain ⟨p, hpl, hcell⟩ := four_strings O1.out H0.out H1.out H2.out H3.out j hlt
              have hjI : (j : Int) < 4 := by omega
              have HNEW := hide (fun W => rq_new p (by omega) W)
              have HRD := hide (fun (h : 1 ≤ kp ∧ kp ≤ 64) W => rshread_any kp h p (by omega) W)
              have HRN := hide (fun (h : ¬ (1 ≤ kp ∧ kp ≤ 64)) W => rshread_arg kp h (bs p) W)
              have HPS := hide (show ((bs p).size : Int) = (p.length : Int) ∧ p.length ≤ 1000000 from ⟨by rw [bs_size], by omega⟩)
              obtain ⟨t, ht⟩ : ∃ t, bs p = t := ⟨_, rfl⟩
              rw [ht] at HNEW HRD HRN HPS hcell
              clear ht hpl
              go_wp2_with fail
              refine (HNEW.out _).mono ?_
              rintro e w4 ⟨rfl, hq, hb⟩
              have Q4 := hide hq
              have O4 := hide ((hb.block _ (heap_lt O1.out)).trans O1.out)
              have G4 := hide (show _ ∧ _ ∧ _ from ⟨(hb.block _ (heap_lt G1.out.1)).trans G1.out.1, (hb.block _ (heap_lt G1.out.2.1)).trans G1.out.2.1, (hb.block _ (heap_lt G1.out.2.2)).trans G1.out.2.2⟩)
              have B4 := hide (B1.out.trans (hb.mono HSZ1.out))
              have HSZ4 := hide (Nat.le_trans HSZ1.out hb.size)
              have HRB := hide (show q ≤ wr.heap.size ∧ ob ≠ wr.heap.size ∧ kl ≠ wr.heap.size ∧ rb ≠ wr.heap.size ∧ kb ≠ wr.heap.size from by have h1 := HSZ1.out; have h2 := heap_lt O1.out; have h3 := heap_lt G1.out.1; have h4 := heap_lt G1.out.2.1; have h5 := heap_lt G1.out.2.2; omega)
              clear hq hb O1 G1 B1 HSZ1 hcell
              generalize wr.heap.size = r at *
              rcases HKP.out with hkp | rfl
              · have HSR := hide (fun W h => shread_any kp hkp r p W h)
                have HRD := hide (fun W => HRD.out hkp W)
                unfold ShRdIs at HSR
                unfold RShRdIs at HRD
                clear hkp HRN
                go_wp2_with fail
                refine (HSR.out _ Q4.out).mono ?_
                rintro e w5 ⟨hcs, ho⟩
                have O5 := hide ((ho.block _ (heap_lt O4.out) HRB.out.2.1).trans O4.out)
                have G5 := hide (show _ ∧ _ ∧ _ from ⟨(ho.block _ (heap_lt G4.out.1) HRB.out.2.2.1).trans G4.out.1, (ho.block _ (heap_lt G4.out.2.1) HRB.out.2.2.2.1).trans G4.out.2.1, (ho.block _ (heap_lt G4.out.2.2) HRB.out.2.2.2.2).trans G4.out.2.2⟩)
                have B5 := hide (ho.below B4.out HRB.out.1 HSZ4.out)
                have HSZ5 := hide (Nat.le_trans HSZ4.out ho.size)
                clear ho O4 G4 B4 HSZ4 Q4 HSR HNEW
                rcases hcs with ⟨hno, rfl⟩ | ⟨M', rest, p', V, hso, rfl, hci, hrq⟩
                · have HNO := hide hno
                  clear hno
                  as_aux_lemma =>
                    go_wp2_with fail
                    refine (HRD.out _).mono ?_
                    rintro e w6 ⟨hcs, hb⟩
                    have O6 := hide ((hb.block _ (heap_lt O5.out)).trans O5.out)
                    have G6 := hide (show _ ∧ _ ∧ _ from ⟨(hb.block _ (heap_lt G5.out.1)).trans G5.out.1, (hb.block _ (heap_lt G5.out.2.1)).trans G5.out.2.1, (hb.block _ (heap_lt G5.out.2.2)).trans G5.out.2.2⟩)
                    have B6 := hide (B5.out.trans (hb.mono HSZ5.out))
                    have HSZ6 := hide (Nat.le_trans HSZ5.out hb.size)
                    clear O5 G5 B5 HSZ5
                    clear hb HRD
                    rcases hcs with ⟨-, rfl⟩ | ⟨M2, r2, nw2, a2, c2, hso2, -⟩
                    · rw [show rsV shNone tot0 none 0 = .agg #[.int .i64 0, .int .i64 0, .bool false, .int .i64 0, .int .i64 0, .int .i64 0, .int .i64 0, .int .i64 0, .int .i64 0, .slice none 0 0] from rfl]
                      go_upto_region 25 with (refine rw_store rfl 32 (.tmp 19) (.tmp 138) rfl w6.heap.size rfl #[.int .i64 0, .int .i64 0, .bool false, .int .i64 0, .int .i64 0, .int .i64 0, .int .i64 0, .int .i64 0, .int .i64 0, .slice none 0 0] rfl _ (heap_new w6 _) (by kernel_rfl) rfl (by simp [Value.oneCell']) ?_)
                      have hal := (Below.refl w6.heap.size w6).alloc (Nat.le_refl _) (.cells #[.int .i64 0, .int .i64 0, .bool false, .int .i64 0, .int .i64 0, .int .i64 0, .int .i64 0, .int .i64 0, .int .i64 0, .slice none 0 0] 32)
                      have XW7 := hide (setRow_same (cs := #[.int .i64 0, .int .i64 0, .bool false, .int .i64 0, .int .i64 0, .int .i64 0, .int .i64 0, .int .i64 0, .int .i64 0, .slice none 0 0]) (heap_new w6 (.cells #[.int .i64 0, .int .i64 0, .bool false, .int .i64 0, .int .i64 0, .int .i64 0, .int .i64 0, .int .i64 0, .int .i64 0, .slice none 0 0] 32)))
                      have hb := setRow_below (hal.trans (Below.refl _ _)) (Nat.le_refl _) hal.size (#[.int .i64 0, .int .i64 0, .bool false, .int .i64 0, .int .i64 0, .int .i64 0, .int .i64 0, .int .i64 0, .int .i64 0, .slice none 0 0] : Array Value)
                      have O7 := hide ((hb.block _ (heap_lt O6.out)).trans O6.out)
                      have G7 := hide (show _ ∧ _ ∧ _ from ⟨(hb.block _ (heap_lt G6.out.1)).trans G6.out.1, (hb.block _ (heap_lt G6.out.2.1)).trans G6.out.2.1, (hb.block _ (heap_lt G6.out.2.2)).trans G6.out.2.2⟩)
                      have B7 := hide (B6.out.trans (hb.mono HSZ6.out))
                      have HSZ7 := hide (Nat.le_trans HSZ6.out hb.size)
                      clear O6 G6 B6 HSZ6
                      clear hal hb
                      generalize (w6.alloc (.cells #[.int .i64 0, .int .i64 0, .bool false, .int .i64 0, .int .i64 0, .int .i64 0, .int .i64 0, .int .i64 0, .int .i64 0, .slice none 0 0] 32)).setRow w6.heap.size #[.int .i64 0, .int .i64 0, .bool false, .int .i64 0, .int .i64 0, .int .i64 0, .int .i64 0, .int .i64 0, .int .i64 0, .slice none 0 0] = w7 at *
                      generalize w6.heap.size = xb at *
                      go_wp2_with fail
                      go_roundw
                      case rel => exact ⟨j + 1, HJL.out, by go_num, O7.out, G7.out.1, G7.out.2.1, G7.out.2.2, B7.out, HSZ7.out⟩
                      case measure => have := HJL.out; simp [intOf]; omega
                    · rw [HNO.out] at hso2; cases hso2
                · have HSO := hide hso
                  have CI := hide hci
                  have RQ5 := hide hrq
                  clear hso hci hrq
                  as_aux_lemma =>
                    go_wp2_with fail
                    refine (HRD.out _).mono ?_
                    rintro e w6 ⟨hcs, hb⟩
                    have C6 := hide (CI.out.below hb)
                    have R6 := hide (RQ5.out.below hb)
                    have O6 := hide ((hb.block _ (heap_lt O5.out)).trans O5.out)
                    have G6 := hide (show _ ∧ _ ∧ _ from ⟨(hb.block _ (heap_lt G5.out.1)).trans G5.out.1, (hb.block _ (heap_lt G5.out.2.1)).trans G5.out.2.1, (hb.block _ (heap_lt G5.out.2.2)).trans G5.out.2.2⟩)
                    have B6 := hide (B5.out.trans (hb.mono HSZ5.out))
                    have HSZ6 := hide (Nat.le_trans HSZ5.out hb.size)
                    clear O5 G5 B5 HSZ5
                    clear hb HRD CI RQ5
                    rcases hcs with ⟨hno2, -⟩ | ⟨M2, r2, nw2, a2, c2, hso2, rfl, hr2⟩
                    · rw [HSO.out] at hno2; cases hno2
                    · rw [HSO.out] at hso2
                      simp only [Option.some.injEq, Prod.mk.injEq] at hso2
                      obtain ⟨rfl, rfl⟩ := hso2
                      have T6 := hide hr2
                      clear hr2
                      have HSB := hide (fun W h1 h2 => same26_any w4.heap.size p' M' V nw2 a2 c2 W h1 h2)
                      unfold rsV at HSB ⊢
                      go_upto_region 25 with (refine rw_store rfl 32 (.tmp 19) (.tmp 138) rfl w6.heap.size rfl #[.int .i64 M'.keep, .int .i64 M'.next, .bool M'.op, .int .i64 nw2.c, .int .i64 nw2.s, .int .i64 nw2.v, .int .i64 nw2.r, .int .i64 nw2.i, .int .i64 nw2.o, .slice a2 M'.L.length c2] rfl _ (heap_new w6 _) (by kernel_rfl) rfl (by simp [Value.oneCell']) ?_)
                      have hal := (Below.refl w6.heap.size w6).alloc (Nat.le_refl _) (.cells #[.int .i64 0, .int .i64 0, .bool false, .int .i64 0, .int .i64 0, .int .i64 0, .int .i64 0, .int .i64 0, .int .i64 0, .slice none 0 0] 32)
                      have XW7 := hide (setRow_same (cs := #[.int .i64 M'.keep, .int .i64 M'.next, .bool M'.op, .int .i64 nw2.c, .int .i64 nw2.s, .int .i64 nw2.v, .int .i64 nw2.r, .int .i64 nw2.i, .int .i64 nw2.o, .slice a2 M'.L.length c2]) (heap_new w6 (.cells #[.int .i64 0, .int .i64 0, .bool false, .int .i64 0, .int .i64 0, .int .i64 0, .int .i64 0, .int .i64 0, .int .i64 0, .slice none 0 0] 32)))
                      have hb := setRow_below (hal.trans (Below.refl _ _)) (Nat.le_refl _) hal.size (#[.int .i64 M'.keep, .int .i64 M'.next, .bool M'.op, .int .i64 nw2.c, .int .i64 nw2.s, .int .i64 nw2.v, .int .i64 nw2.r, .int .i64 nw2.i, .int .i64 nw2.o, .slice a2 M'.L.length c2] : Array Value)
                      have C7 := hide (C6.out.below hb)
                      have R7 := hide (R6.out.below hb)
                      have T7 := hide (T6.out.below hb)
                      clear C6 R6 T6
                      have O7 := hide ((hb.block _ (heap_lt O6.out)).trans O6.out)
                      have G7 := hide (show _ ∧ _ ∧ _ from ⟨(hb.block _ (heap_lt G6.out.1)).trans G6.out.1, (hb.block _ (heap_lt G6.out.2.1)).trans G6.out.2.1, (hb.block _ (heap_lt G6.out.2.2)).trans G6.out.2.2⟩)
                      have B7 := hide (B6.out.trans (hb.mono HSZ6.out))
                      have HSZ7 := hide (Nat.le_trans HSZ6.out hb.size)
                      clear O6 G6 B6 HSZ6
                      clear hal hb
                      generalize (w6.alloc (.cells #[.int .i64 0, .int .i64 0, .bool false, .int .i64 0, .int .i64 0, .int .i64 0, .int .i64 0, .int .i64 0, .int .i64 0, .slice none 0 0] 32)).setRow w6.heap.size #[.int .i64 M'.keep, .int .i64 M'.next, .bool M'.op, .int .i64 nw2.c, .int .i64 nw2.s, .int .i64 nw2.v, .int .i64 nw2.r, .int .i64 nw2.i, .int .i64 nw2.o, .slice a2 M'.L.length c2] = w7 at *
                      generalize w6.heap.size = xb at *
                      obtain ⟨hl, hleft⟩ := left_is r rest w7 R7.out
                      have HLF := hide (fun W (h : RQ W r true rest) => (left_is r rest W h).2)
                      obtain ⟨hps, hps2⟩ := HPS.out
                      have hlr : (rest.length : Int) ≤ 1000000 := by omega
                      have hr0 : 0 ≤ (rest.length : Int) := Int.natCast_nonneg _
                      obtain ⟨rl, hrl⟩ : ∃ rl : Int, (rest.length : Int) = rl := ⟨_, rfl⟩
                      have HRL := hide hrl
                      rw [hrl] at hlr hr0 HLF ⊢
                      obtain ⟨hw, hwb⟩ := wrap_back2 p.length rl hps2 hr0 hlr
                      clear hleft hl hps2 hrl
                      go_wp2_with (refine wpList_rowLoadG2 (by kernel_rfl) 32 (.tmp 19) rfl xb rfl 32 #[.int .i64 M'.keep, .int .i64 M'.next, .bool M'.op, .int .i64 nw2.c, .int .i64 nw2.s, .int .i64 nw2.v, .int .i64 nw2.r, .int .i64 nw2.i, .int .i64 nw2.o, .slice a2 M'.L.length c2] (0, 0) _ XW7.out Try.underlying32 rfl (by kernel_rfl) ?_)
                      refine (HSB.out _ C7.out T7.out).mono ?_
                      rintro e w8 ⟨rfl, hb⟩
                      have R8 := hide (R7.out.below hb)
                      have O8 := hide ((hb.block _ (heap_lt O7.out)).trans O7.out)
                      have G8 := hide (show _ ∧ _ ∧ _ from ⟨(hb.block _ (heap_lt G7.out.1)).trans G7.out.1, (hb.block _ (heap_lt G7.out.2.1)).trans G7.out.2.1, (hb.block _ (heap_lt G7.out.2.2)).trans G7.out.2.2⟩)
                      have B8 := hide (B7.out.trans (hb.mono HSZ7.out))
                      have HSZ8 := hide (Nat.le_trans HSZ7.out hb.size)
                      clear O7 G7 B7 HSZ7
                      clear hb C7 T7 R7
                      go_wp2_with fail
                      refine (HLF.out _ R8.out).mono ?_
                      rintro e w9 ⟨rfl, rfl⟩
                      go_wp2_with fail
                      go_roundw
                      case rel => exact ⟨j + 1, HJL.out, by go_num, O8.out, G8.out.1, G8.out.2.1, G8.out.2.2, B8.out, HSZ8.out⟩
                      case measure => have := HJL.out; simp [intOf]; omega
              · have HSR := hide (fun W => shread_arg r 65 (by decide) W)
                have HRN := hide (fun W => HRN.out (by decide) W)
                clear HRD HNEW
                as_aux_lemma =>
                go_wp2_with fail
                refine (HSR.out _).mono ?_
                rintro e w5 ⟨rfl, rfl⟩
                go_wp2_with fail
                refine (HRN.out _).mono ?_
                rintro e w6 ⟨rfl, hb⟩
                have O6 := hide ((hb.block _ (heap_lt O4.out)).trans O4.out)
                have G6 := hide (show _ ∧ _ ∧ _ from ⟨(hb.block _ (heap_lt G4.out.1)).trans G4.out.1, (hb.block _ (heap_lt G4.out.2.1)).trans G4.out.2.1, (hb.block _ (heap_lt G4.out.2.2)).trans G4.out.2.2⟩)
                have B6 := hide (B4.out.trans (hb.mono HSZ4.out))
                have HSZ6 := hide (Nat.le_trans HSZ4.out hb.size)
                clear O4 G4 B4 HSZ4
                clear hb
                rw [show rsV shNone tot0 none 0 = .agg #[.int .i64 0, .int .i64 0, .bool false, .int .i64 0, .int .i64 0, .int .i64 0, .int .i64 0, .int .i64 0, .int .i64 0, .slice none 0 0] from rfl]
                go_upto_region 25 with (refine rw_store rfl 32 (.tmp 19) (.tmp 138) rfl w6.heap.size rfl #[.int .i64 0, .int .i64 0, .bool false, .int .i64 0, .int .i64 0, .int .i64 0, .int .i64 0, .int .i64 0, .int .i64 0, .slice none 0 0] rfl _ (heap_new w6 _) (by kernel_rfl) rfl (by simp [Value.oneCell']) ?_)
                have hal := (Below.refl w6.heap.size w6).alloc (Nat.le_refl _) (.cells #[.int .i64 0, .int .i64 0, .bool false, .int .i64 0, .int .i64 0, .int .i64 0, .int .i64 0, .int .i64 0, .int .i64 0, .slice none 0 0] 32)
                have XW7 := hide (setRow_same (cs := #[.int .i64 0, .int .i64 0, .bool false, .int .i64 0, .int .i64 0, .int .i64 0, .int .i64 0, .int .i64 0, .int .i64 0, .slice none 0 0]) (heap_new w6 (.cells #[.int .i64 0, .int .i64 0, .bool false, .int .i64 0, .int .i64 0, .int .i64 0, .int .i64 0, .int .i64 0, .int .i64 0, .slice none 0 0] 32)))
                have hb := setRow_below (hal.trans (Below.refl _ _)) (Nat.le_refl _) hal.size (#[.int .i64 0, .int .i64 0, .bool false, .int .i64 0, .int .i64 0, .int .i64 0, .int .i64 0, .int .i64 0, .int .i64 0, .slice none 0 0] : Array Value)
                have O7 := hide ((hb.block _ (heap_lt O6.out)).trans O6.out)
                have G7 := hide (show _ ∧ _ ∧ _ from ⟨(hb.block _ (heap_lt G6.out.1)).trans G6.out.1, (hb.block _ (heap_lt G6.out.2.1)).trans G6.out.2.1, (hb.block _ (heap_lt G6.out.2.2)).trans G6.out.2.2⟩)
                have B7 := hide (B6.out.trans (hb.mono HSZ6.out))
                have HSZ7 := hide (Nat.le_trans HSZ6.out hb.size)
                clear O6 G6 B6 HSZ6
                clear hal hb
                generalize (w6.alloc (.cells #[.int .i64 0, .int .i64 0, .bool false, .int .i64 0, .int .i64 0, .int .i64 0, .int .i64 0, .int .i64 0, .int .i64 0, .slice none 0 0] 32)).setRow w6.heap.size #[.int .i64 0, .int .i64 0, .bool false, .int .i64 0, .int .i64 0, .int .i64 0, .int .i64 0, .int .i64 0, .int .i64 0, .slice none 0 0] = w7 at *
                generalize w6.heap.size = xb at *
                go_wp2_with fail
                go_roundw
                case rel => exact ⟨j + 1, HJL.out, by go_num, O7.out, G7.out.1, G7.out.2.1, G7.out.2.2, B7.out, HSZ7.out⟩
                case measure => have := HJL.out; simp [intOf]; omega
            · obtain rfl : j = 4 := by omega
              go_wp2_with fail
              go_roundw
              case rel => exact ⟨k + 1, HLT.out, by go_num, G1.out.1, G1.out.2.1, G1.out.2.2, B1.out, HSZ1.out⟩
              case measure => have := HLT.out; simp [intOf]; omega
        · obtain rfl : k = 3 := by omega
          as_aux_lemma =>
          have hal := (Below.refl wr.heap.size wr).alloc (Nat.le_refl _) (.cells #[.slice none 0 0, .bool false] 56)
          have F2 := hide (WF.new (w := wr) (B := wr.heap.size) (Nat.le_refl _))
          have B2 := hide (B1.out.trans (hal.mono HSZ1.out))
          have HSZ2 := hide (Nat.le_trans HSZ1.out hal.size)
          clear hal B1 HSZ1
          go_upto_region 31 with (fail)
          generalize wr.alloc (.cells #[.slice none 0 0, .bool false] 56) = w2 at *
          generalize wr.heap.size = wq at *
          go_wp2_with fail
          refine (shwrite_none wq _).mono ?_
          rintro e w3 ⟨rfl, rfl⟩
          go_wp2_with fail
          refine (wf_bytes wq wq [] w2 F2.out).mono ?_
          rintro e w5 ⟨rfl, rfl⟩
          rw [show (if (wrFs []).2 = true then (2 : Int) else 0) = 0 from rfl, show refS [] = ⟨#[]⟩ from rfl]
          clear F2
          go_wp2_with fail
          refine (shstart_none _).mono ?_
          rintro e w3 ⟨rfl, rfl⟩
          go_wp2_with fail
          refine (shend_none _).mono ?_
          rintro e w3 ⟨rfl, hb⟩
          have B3 := hide (B2.out.trans (hb.mono HSZ2.out))
          have HSZ3 := hide (Nat.le_trans HSZ2.out hb.size)
          clear hb B2 HSZ2
          go_upto_region 35 with (fail)
          obtain ⟨ox, hox⟩ : ∃ o, o = Obj.cells #[.int .i64 0, .int .i64 0, .int .i64 0, .int .i64 0, .int .i64 0, .int .i64 0] 43 := ⟨_, rfl⟩
          (try rw [← hox])
          have hal := (Below.refl w3.heap.size w3).alloc (Nat.le_refl _) ox
          have B4 := hide (B3.out.trans (hal.mono HSZ3.out))
          have HSZ4 := hide (Nat.le_trans HSZ3.out hal.size)
          clear hal B3 HSZ3 hox
          generalize w3.alloc ox = w4 at *
          go_wp2_with fail
          refine (shtot_none 1 _).mono ?_
          rintro e w5 ⟨rfl, hb⟩
          have B5 := hide (B4.out.trans (hb.mono HSZ4.out))
          have HSZ5 := hide (Nat.le_trans HSZ4.out hb.size)
          clear hb B4 HSZ4
          go_upto_region 36 with (fail)
          obtain ⟨oy, hoy⟩ : ∃ o, o = Obj.cells #[.int .i64 0, .int .i64 0, .int .i64 0, .int .i64 0, .int .i64 0, .int .i64 0] 43 := ⟨_, rfl⟩
          (try rw [← hoy])
          have hal := (Below.refl w5.heap.size w5).alloc (Nat.le_refl _) oy
          have B6 := hide (B5.out.trans (hal.mono HSZ5.out))
          have HSZ6 := hide (Nat.le_trans HSZ5.out hal.size)
          clear hal B5 HSZ5 hoy
          generalize w5.alloc oy = w6 at *
          go_wp2_with fail
          refine (shread_none _).mono ?_
          rintro e w7 ⟨rfl, hb⟩
          have B7 := hide (B6.out.trans (hb.mono HSZ6.out))
          have HSZ7 := hide (Nat.le_trans HSZ6.out hb.size)
          clear hb B6 HSZ6
          go_wp2_with fail
          refine (wakes26 _).mono ?_
          rintro e w8 ⟨rfl, hb⟩
          have B8 := hide (B7.out.trans (hb.mono HSZ7.out))
          clear hb B7 HSZ7
          go_wp2_with fail
          refine (shadd_none 1 1 _).mono ?_
          rintro e w9 ⟨rfl, rfl⟩
          go_wp2_with fail
          refine (shopen_none _).mono ?_
          rintro e w9 ⟨rfl, rfl⟩
          go_wp2_with fail
          refine (shcopy_none _).mono ?_
          rintro e w9 ⟨rfl, rfl⟩
          go_wp2_with fail
          go_ret
          exact ⟨rfl, by rw [HQ.out]; exact B8.out⟩
theorem shiftReads_all (s : ByteArray) (hs : s.size ≤ 9223372036854775807) (v1 : Value) (u : Value) (hu : ∃ xs : List Int, xs.length = 2 ∧ u = .agg (xs.map (Value.int .u16)).toArray ∧ ∀ x ∈ xs, (Lit.int .u16 x).wf = true) (w : World) (hz : ActsS w v1) :
    Calls Try.prog 4 #[.string s, v1, u] w fun e w' => e = .returned (.bool true) ∧ Below w.heap.size w w' := by
  obtain ⟨xs, hl, rfl, hx⟩ := hu
  match xs, hl, hx with
  | [a0, a1], _, hx =>
    have h0 := wf_u16 (hx a0 (by simp))
    have h1 := wf_u16 (hx a1 (by simp))
    exact shiftReads_walk s hs v1 a0 a1 h0.1 h0.2 h1.1 h1.2 w hz

set_option maxRecDepth 100000 in
theorem shiftReads_lifted (os : Os) (started : os.Started) (H : Type) (enc : TypeId × Value → H) :
    ReturnsInHanded {} Try.checked os 4 .any (Rows.shiftReadsSpec.pre6 enc Try.prog Try.f4 Rows.shiftReadsRow.domain false) (Rows.shiftReadsSpec.post enc Try.prog Try.f4 false true false false) := by
  refine returnsInHanded_of_change (C := Try.checked) own started (by kernel_rfl) Try.func4
    (ChangeSpec.witness6 (enc := enc) (C := Try.checked) false ⟨#[], #[.string ⟨#[]⟩, .slice none 0 0, .agg #[.int .u16 0, .int .u16 0]], []⟩ 8 (by kernel_rfl) (by kernel_rfl) (by kernel_rfl) (by kernel_rfl)) ?_
  intro W base args ds gs before hval0 hW _ _
  have hval : ∀ (j : Nat) t v, Try.f4.params[j]? = some t → args[j]? = some v → Value.okWide Try.prog W .any base t v := hval0
  have hW' := hW
  obtain ⟨p, q, hA0, hV, rfl, hfz, hnd⟩ := hW
  have hA : DataW.TrodAll enc Try.prog W 0 (fun _ => true) true Try.f4.params.toList args.toList ds p := hA0
  rw [Try.params4] at hA hval
  obtain ⟨v0, vs0, d0, ds0, p0, q0, hargs, rfl, rfl, h0, r0⟩ := trodAll_cons hA
  obtain ⟨v1, vs1, d1, ds1, p1, q1, rfl, rfl, rfl, h1, r1⟩ := trodAll_cons r0
  obtain ⟨v2, vs2, d2, ds2, p2, q2, rfl, rfl, rfl, h2, r2⟩ := trodAll_cons r1
  obtain ⟨rfl, rfl, rfl⟩ := trodAll_nil r2
  obtain rfl : args = #[v0, v1, v2] := by cases args; simp_all
  obtain ⟨rfl, rfl⟩ := trodVars_none hV
  obtain ⟨s, rfl, rfl, rfl, w0⟩ := ChangeMaps.open_string Try.underlying9 (hval 0 9 v0 rfl rfl) h0
  have z0 : s.size ≤ 9223372036854775807 := w0
  have z1 := open_actSs (hval 1 22 v1 rfl rfl) h1
  have z2 := open_nums_array 2 Try.underlying68 Try.underlying67 (by kernel_rfl) (by kernel_rfl) (hval 2 68 v2 rfl rfl) h2
  clear hA0 hval0
  refine (shiftReads_all s z0 v1 v2 z2 W z1).mono fun e W' ⟨he, hb⟩ => ?_
  subst he
  exact ⟨_, rfl, post_law laidOut (of_decide_eq_true (by kernel_rfl)) rfl rfl Try.underlying4 hW' ⟨rfl, rfl, rfl⟩ hb⟩

/-- THE STATEMENT -/
theorem shiftReads_holds : Rows.ShiftReadsSaid :=
  OpenClaim.holds_of_wide 4 Try.f4 rfl rfl rfl rfl rfl rfl rfl ⟨rfl, rfl, rfl, rfl, rfl⟩ rfl rfl rfl rfl rfl (by kernel_rfl) Try.func4 (by kernel_rfl)
    (of_decide_eq_true (by kernel_rfl)) (by unfold Func.isWrapper; first | (rw [if_pos (by decide +kernel)]; kernel_rfl) | (rw [if_neg (by decide +kernel)]; exact ⟨rfl, rfl⟩))
    (fun os started H enc _ => shiftReads_lifted os started H enc)

end Go.Proofs.Ytfdgfeohmkdnoaa
