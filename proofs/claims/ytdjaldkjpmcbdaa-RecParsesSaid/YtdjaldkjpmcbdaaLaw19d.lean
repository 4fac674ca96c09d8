/-
  Layer 19: RecParses.
-/
import Derived.Test.YtdjaldkjpmcbdaaLaw19b
import Derived.Test.YtdjaldkjpmcbdaaRef19b
import Derived.Test.YtdjaldkjpmcbdaaKitT
namespace Go.Proofs.Ytdjaldkjpmcbdaa
set_option linter.unusedSimpArgs false
set_option linter.unusedVariables false
open Go.RowKit Go.WideShapes Go.ChangeShapes Go.ChangeAt

/-- what a region reads -/
def SP (ab rb q n1 zz : Nat) (a0 : Int) (b3 b4 : ByteArray) (W : World) : Prop :=
  W.cell? ⟨ab, 0, none⟩ = some (.int .u16 a0) ∧
  (convert 44 9 (.slice (some ⟨rb, 0, none⟩) n1 (n1 + zz))).run Try.prog W = .ok (.string b3) W ∧
  (convert 44 9 (.slice (some ⟨rb, 0, none⟩) q (n1 + zz))).run Try.prog W = .ok (.string b4) W
theorem SP.of {ab rb q n1 zz : Nat} {a0 a1 : Int} {T : List UInt8} {W : World} {fr : Nat × Nat} (ha : W.heap[ab]? = some (.cells #[.int .u16 a0, .int .u16 a1] 43 (0, 0))) (hr : W.heap[rb]? = some (.cells (rowC T zz) 5 fr)) (hl : T.length = n1) (hq : q ≤ n1) : SP ab rb q n1 zz a0 (bs T) (bs (T.take q)) W := by
  refine ⟨cell_of_block ha 0, conv_bytes W rb 0 n1 _ T hl (fun i hi => ?_), conv_bytes W rb 0 q _ (T.take q) (by rw [List.length_take]; omega) (fun i hi => ?_)⟩
  · rw [Nat.zero_add, cell_of_block hr, rowC_at T zz i (by omega)]
  · rw [Nat.zero_add, cell_of_block hr, rowC_at T zz i (by omega)]
    simp [List.getD, List.getElem?_take, hi]
theorem xor_byte (x : UInt8) (a : Int) (h0 : 0 ≤ a) (h1 : a ≤ 255) : ∃ y : UInt8, bits .xor .u8 (x.toNat : Int) a = (y.toNat : Int) := by
  refine ⟨x ^^^ UInt8.ofNat a.toNat, ?_⟩
  have h2 : (UInt8.ofNat a.toNat).toNat = a.toNat := by simp; omega
  rw [UInt8.toNat_xor, h2, ← u8_xor_nat _ _ (x.toNat_lt) (by omega), Int.toNat_of_nonneg h0]
theorem six_strings {W : World} {sb t : Nat} {b0 b1 b2 b3 b4 b5 : ByteArray} {N : Nat} (h : W.heap[sb]? = some (.cells #[.string b0, .string b1, .string b2, .string b3, .string b4, .string b5] t (0, 0)))
    (h0 : ∃ q : List UInt8, b0 = bs q ∧ q.length ≤ N) (h1 : ∃ q : List UInt8, b1 = bs q ∧ q.length ≤ N) (h2 : ∃ q : List UInt8, b2 = bs q ∧ q.length ≤ N) (h3 : ∃ q : List UInt8, b3 = bs q ∧ q.length ≤ N) (h4 : ∃ q : List UInt8, b4 = bs q ∧ q.length ≤ N) (h5 : ∃ q : List UInt8, b5 = bs q ∧ q.length ≤ N) (i : Nat) (hi : i < 6) :
    ∃ q : List UInt8, q.length ≤ N ∧ W.cell? ⟨sb, i, none⟩ = some (.string (bs q)) := by
  have hc : i = 0 ∨ i = 1 ∨ i = 2 ∨ i = 3 ∨ i = 4 ∨ i = 5 := by omega
  rcases hc with rfl | rfl | rfl | rfl | rfl | rfl
  · obtain ⟨q, rfl, hq⟩ := h0; exact ⟨q, hq, cell_of_block h 0⟩
  · obtain ⟨q, rfl, hq⟩ := h1; exact ⟨q, hq, cell_of_block h 1⟩
  · obtain ⟨q, rfl, hq⟩ := h2; exact ⟨q, hq, cell_of_block h 2⟩
  · obtain ⟨q, rfl, hq⟩ := h3; exact ⟨q, hq, cell_of_block h 3⟩
  · obtain ⟨q, rfl, hq⟩ := h4; exact ⟨q, hq, cell_of_block h 4⟩
  · obtain ⟨q, rfl, hq⟩ := h5; exact ⟨q, hq, cell_of_block h 5⟩
theorem parse_len : ∀ (n : Nat) (s : List UInt8) (L : List Rc), s.length ≤ n → parseP s = .ok L → L.length ≤ s.length
  | n, s, L, hn, h => by
    by_cases h0 : s = []
    · subst h0
      rw [parseP_nil] at h
      simp only [Except.ok.injEq] at h
      subst h
      simp
    · by_cases he : errR s = 0
      · rw [parseP_step s h0 he] at h
        have hlt := restR_lt s h0
        match n, hn with
        | 0, hn => exact absurd (List.length_eq_zero_iff.1 (by omega)) h0
        | n + 1, hn =>
          cases hp : parseP (restR s) with
          | error e => rw [hp] at h; cases h
          | ok l =>
            rw [hp] at h
            have ih := parse_len n (restR s) l (by omega) hp
            have : firstR s :: l = L := by simpa [Except.map] using h
            rw [← this, List.length_cons]
            omega
      · rw [parseP_err s h0 he] at h
        cases h
theorem except_same {r : Except Int (List Rc)} {L M : List Rc} {c d : Int} (h1 : (r = .ok L ∧ c = 0) ∨ (r = .error c ∧ ¬ c = 0 ∧ L = [])) (h2 : (r = .ok M ∧ d = 0) ∨ (r = .error d ∧ ¬ d = 0 ∧ M = [])) : L = M ∧ c = d := by
  rcases h1 with ⟨h1, h3⟩ | ⟨h1, h3, h4⟩ <;> rcases h2 with ⟨h2, h5⟩ | ⟨h2, h5, h6⟩
  · rw [h1] at h2; simp only [Except.ok.injEq] at h2; exact ⟨h2, h3.trans h5.symm⟩
  · rw [h1] at h2; cases h2
  · rw [h1] at h2; cases h2
  · rw [h1] at h2; simp only [Except.error.injEq] at h2; exact ⟨h4.trans h6.symm, h2⟩
set_option maxRecDepth 100000 in
set_option maxHeartbeats 1000000 in
theorem recParses_walk (v : Value) (raw : ByteArray) (hraw : raw.size ≤ 9223372036854775807) (a0 a1 : Int) (a00 : 0 ≤ a0) (a01 : a0 ≤ 65535) (a10 : 0 ≤ a1) (a11 : a1 ≤ 65535) (w : World) (hv : RecsV w v) :
    Calls Try.prog 4 #[v, .string raw, .agg #[.int .u16 a0, .int .u16 a1]] w fun e w' => e = .returned (.bool true) ∧ Below w.heap.size w w' := by
  obtain ⟨L, a, cap, rfl, hcap, hmax, hin⟩ := hv
  have HIN := hide hin
  have HRCS := hide (fun W h => records_any a cap L hcap hmax W h)
  have hm6 := cutL_six L
  have HMS := hide (cutL_short L)
  unfold RIs at HRCS
  generalize cutL L = M at *
  have z := (zero_of_info tab_zero).1
  have hsz := tabC_size 256
  have hst := tab_store
  have HMK := hide (fun W => make_any W)
  have HRFR := hide (fun a c W h => rframe_any a c M (by omega) (fun r hr => Nat.le_trans (HMS.out r hr) (by omega)) W h)
  have hl1 := frL_le M (by omega)
  -- the raw bytes, cut
  obtain ⟨m, hm⟩ : ∃ m : Nat, min raw.size 200 = m := ⟨_, rfl⟩
  have hmI : min (raw.size : Int) 200 = (m : Int) := by omega
  have hmle : (m : Int) ≤ (raw.size : Int) := by omega
  obtain ⟨Rr, hRl, hRe⟩ : ∃ Rr : List UInt8, Rr.length ≤ 200 ∧ raw.extract 0 m = bs Rr := by
    refine ⟨raw.data.toList.take m, by rw [List.length_take]; omega, ?_⟩
    conv => lhs; rw [← bs_of raw]
    exact bs_to _ _
  have HRN := hide (fun W => recParse_nil (bs Rr) W)
  clear hin hcap hmax hm
  have HA0 := hide (heap_new w (.cells #[.int .u16 a0, .int .u16 a1] 43))
  have HB0 := hide ((Below.refl w.heap.size w).alloc (Nat.le_refl _) (.cells #[.int .u16 a0, .int .u16 a1] 43))
  go_enter Try.func4, Try.ntmps4
  go_wp2_with fail
  refine (HMK.out _).mono ?_
  rintro e w1 ⟨rfl, hb1⟩
  have HT2 := hide (tabAt_new w1)
  have HB1 := hide (HB0.out.trans (hb1.mono HB0.out.size))
  have HB2 := hide (HB1.out.alloc HB1.out.size (.cells (tabC 256) 25))
  have HA2 := hide ((heap_old w1 (.cells (tabC 256) 25) _ (Nat.lt_of_lt_of_le (heap_lt HA0.out) hb1.size)).trans ((hb1.block _ (heap_lt HA0.out)).trans HA0.out))
  clear hb1 HB1 HB0 HA0
  go_wp2_with fail
  generalize w1.alloc (.cells (tabC 256) 25) = w2 at *
  generalize w1.heap.size = pb at *
  refine (HRCS.out _ (HIN.out.below HB2.out)).mono ?_
  rintro e w3 ⟨a2, a3, c2, c3, rfl, -, h2, hb3⟩
  have HQ3 := hide (recs_of_owns h2)
  have HT3 := hide (tabAt_kept HT2.out hb3)
  have HB3 := hide (HB2.out.trans (hb3.mono HB2.out.size))
  have HA3 := hide ((hb3.block _ (heap_lt HA2.out)).trans HA2.out)
  clear h2 hb3 HT2 HB2 HA2 HRCS hst hsz z
  go_wp2_with fail
  refine (HRFR.out a3 c3 _ HQ3.out).mono ?_
  rintro e w4 ⟨rfl, hb4⟩
  have HT4 := hide (tabAt_kept HT3.out hb4)
  have HB4 := hide (HB3.out.trans (hb4.mono HB3.out.size))
  have HA4 := hide ((hb4.block _ (heap_lt HA3.out)).trans HA3.out)
  clear hb4 HQ3 HT3 HB3 HA3 HRFR
  -- the turned text
  obtain ⟨sL, hsL⟩ : ∃ sL, frL M = sL := ⟨_, rfl⟩
  rw [hsL] at hl1
  rw [hsL]
  clear hsL
  obtain ⟨q, hq⟩ : ∃ q : Nat, sL.length = q := ⟨_, rfl⟩
  have hss : ((bs sL).size : Int) = (q : Int) := by rw [bs_size, hq]
  have hql : q ≤ 300000 := by omega
  obtain ⟨n1, hn1⟩ : ∃ n1 : Nat, q + 1 = n1 := ⟨_, rfl⟩
  have hcatx : bs sL ++ ByteArray.mk #[120] = bs (sL ++ [120]) := by rw [show ByteArray.mk #[120] = bs [120] from rfl, bs_append]
  have hszx : ¬ 9223372036854775807 < (bs sL).size + 1 := by rw [bs_size]; omega
  have hszr : ¬ 9223372036854775807 < (bs sL).size + (bs Rr).size := by rw [bs_size, bs_size]; omega
  have hcatr : bs sL ++ bs Rr = bs (sL ++ Rr) := bs_append _ _
  obtain ⟨zz, w5, hcv, hb5, hs5, hrow⟩ := conv_text w4 (bs (sL ++ [120]))
  have hsz3 : (bs (sL ++ [120])).size = n1 := by rw [bs_size, List.length_append, List.length_singleton]; omega
  have hTl : (sL ++ [120]).length = n1 := by rw [List.length_append, List.length_singleton]; omega
  rw [hsz3] at hcv hrow
  rw [show (bs (sL ++ [120])).data.toList = sL ++ [120] from rfl] at hrow
  have HT5 := hide (tabAt_kept HT4.out hb5)
  have HB5 := hide (HB4.out.trans (hb5.mono HB4.out.size))
  have HA5 := hide ((hb5.block _ (heap_lt HA4.out)).trans HA4.out)
  have HRW := hide hrow
  have hrb := heap_lt hrow
  have hpb := tabAt_lt HT4.out
  have hab := heap_lt HA4.out
  have hwr := HB4.out.size
  obtain ⟨i, hi⟩ := Int.eq_ofNat_of_zero_le (show 0 ≤ a0 % (n1 : Int) from Int.emod_nonneg _ (by omega))
  have hin1 : i < n1 := by have := Int.emod_lt_of_pos a0 (show (0 : Int) < (n1 : Int) by omega); omega
  have hit : a0.tmod (n1 : Int) = (i : Int) := by rw [Int.tmod_eq_emod_of_nonneg a00]; exact hi
  obtain ⟨k, hk⟩ := Int.eq_ofNat_of_zero_le (show 0 ≤ a0 % ((q : Int) + 1) from Int.emod_nonneg _ (by omega))
  have hkq : k ≤ q := by have := Int.emod_lt_of_pos a0 (show (0 : Int) < (q : Int) + 1 by omega); omega
  have hkt : a0.tmod ((q : Int) + 1) = (k : Int) := by rw [Int.tmod_eq_emod_of_nonneg a00]; exact hk
  have HEX := hide (bs_to sL k)
  obtain ⟨x', hx'⟩ := xor_byte ((sL ++ [120]).getD i 0) (a1 % 256) (Int.emod_nonneg _ (by omega)) (by have := Int.emod_lt_of_pos a1 (show (0 : Int) < 256 by omega); omega)
  have x0 : w5.cell? ⟨w.heap.size, 0, none⟩ = some (.int .u16 a0) := cell_of_block HA5.out 0
  have x1 : w5.cell? ⟨w.heap.size, 1, none⟩ = some (.int .u16 a1) := cell_of_block HA5.out 1
  have y0 : w5.cell? ⟨w4.heap.size, i, none⟩ = some (.int .u8 (((sL ++ [120]).getD i 0).toNat : Int)) := by rw [cell_of_block HRW.out, rowC_at _ zz i (by omega)]
  have hfr : w5.frozen? ⟨w4.heap.size, i, none⟩ = false := by simp only [World.frozen?, HRW.out]; simp; omega
  have hiI : (i : Int) < (n1 : Int) := by omega
  have hn0 : ¬ (n1 : Int) = 0 := by omega
  have HTL := hide (show ((sL ++ [120]).set i x').length = n1 by rw [List.length_set]; exact hTl)
  have HR6 := hide (show (w5.setCell ⟨w4.heap.size, i, none⟩ (.int .u8 (x'.toNat : Int))).heap[w4.heap.size]? = some (.cells (rowC ((sL ++ [120]).set i x') zz) 5 (n1 + zz, n1 + zz + 1)) from by
    rw [← rowC_set (sL ++ [120]) zz i (by omega) x']
    exact block_setCell HRW.out _ _)
  have HA6 := hide (show (w5.setCell ⟨w4.heap.size, i, none⟩ (.int .u8 (x'.toNat : Int))).heap[w.heap.size]? = some (.cells #[.int .u16 a0, .int .u16 a1] 43 (0, 0)) from by
    rw [block_setCell_other (by omega)]; exact HA5.out)
  have HT6 := hide (show TabAt (w5.setCell ⟨w4.heap.size, i, none⟩ (.int .u8 (x'.toNat : Int))) pb 0 from fun j hj => by
    have h1 := HT5.out j hj
    have hne : w4.heap.size ≠ pb := by omega
    simp only [World.cell?, block_setCell_other hne] at h1 ⊢; exact h1)
  have HB6 := hide (HB5.out.setCell (p := ⟨w4.heap.size, i, none⟩) (show w.heap.size ≤ w4.heap.size by omega) (.int .u8 (x'.toNat : Int)))
  clear hrow hb5 hs5 hTl HRW HA4 HB4 HT4
  generalize ((sL ++ [120]).getD i 0).toNat = xv at *
  generalize (sL ++ [120]).set i x' = T' at *
  go_upto_region 6 with (fail)
  go_region
  have HR7 := hide (show (w5.setCell ⟨w4.heap.size, i, none⟩ (.int .u8 (x'.toNat : Int))).drew.heap[w4.heap.size]? = _ from HR6.out)
  have HA7 := hide (show (w5.setCell ⟨w4.heap.size, i, none⟩ (.int .u8 (x'.toNat : Int))).drew.heap[w.heap.size]? = _ from HA6.out)
  have HT7 := hide (tabAt_drew HT6.out)
  have HB7 := hide HB6.out.drew
  clear HR6 HA6 HT6 HB6 HA5 HB5 HT5 x0 x1 y0 hfr hcv
  generalize (w5.setCell ⟨w4.heap.size, i, none⟩ (.int .u8 (x'.toNat : Int))).drew = w9 at *
  generalize w4.heap.size = rb at *
  go_upto_region 7 with (fail)
  have hq1 : (n1 : Int) - 1 = (q : Int) := by omega
  have hqn : (q : Int) ≤ (n1 : Int) + (zz : Int) := by omega
  have hkq' : (k : Int) ≤ (q : Int) := by omega
  have hq0 : ¬ (q : Int) + 1 = 0 := by omega
  have hqb : (q : Int) ≤ 300000 := by omega
  have hwq : IntKind.i64.wrap (q : Int) = (q : Int) := by rw [IntKind.wrap_i64]; omega
  have hwq1 : IntKind.i64.wrap ((q : Int) + 1) = (q : Int) + 1 := by rw [IntKind.wrap_i64]; omega
  have hwa : IntKind.i64.wrap a0 = a0 := by rw [IntKind.wrap_i64]; omega
  have HSPF := hide (fun (W : World) (h1 : W.heap[w.heap.size]? = some (.cells #[.int .u16 a0, .int .u16 a1] 43 (0, 0))) (h2 : W.heap[rb]? = some (.cells (rowC T' zz) 5 (n1 + zz, n1 + zz + 1))) => SP.of (q := q) h1 h2 HTL.out (by omega))
  have HAv0 := hide (show w9.drew.heap[w.heap.size]? = _ from HA7.out)
  have HRv0 := hide (show w9.drew.heap[rb]? = _ from HR7.out)
  have HSPv0 := hide (HSPF.out _ HAv0.out HRv0.out)
  have HTv0 := hide (tabAt_drew HT7.out)
  have HBv0 := hide HB7.out.drew
  have H0 := hide (show ∃ p : List UInt8, bs Rr = bs p ∧ p.length ≤ 400000 from ⟨Rr, rfl, by omega⟩)
  have H1 := hide (show ∃ p : List UInt8, bs sL = bs p ∧ p.length ≤ 400000 from ⟨sL, rfl, by omega⟩)
  have H2 := hide (show ∃ p : List UInt8, bs (sL ++ Rr) = bs p ∧ p.length ≤ 400000 from ⟨_, rfl, by rw [List.length_append]; omega⟩)
  have H3 := hide (show ∃ p : List UInt8, bs T' = bs p ∧ p.length ≤ 400000 from ⟨_, rfl, by rw [HTL.out]; omega⟩)
  have H4 := hide (show ∃ p : List UInt8, bs (T'.take q) = bs p ∧ p.length ≤ 400000 from ⟨_, rfl, by rw [List.length_take]; omega⟩)
  have H5 := hide (show ∃ p : List UInt8, bs (sL.take k) = bs p ∧ p.length ≤ 400000 from ⟨_, rfl, by rw [List.length_take]; omega⟩)
  have hex := HEX.out
  clear HA7 HR7 HT7 HB7 hi hk hx' hcatx hq hn1 hql hl1 HTL HEX
  generalize bs (sL.take k) = b5 at *
  generalize bs (T'.take q) = b4 at *
  generalize bs T' = b3 at *
  generalize bs (sL ++ Rr) = b2 at *
  generalize bs sL = b1 at *
  generalize bs Rr = b0 at *
  refine wp_region_held_drew (S := (SP w.heap.size rb q n1 zz a0 b3 b4)) (by kernel_rfl) (HSPv0.out) (fun hHeld => ?_)
  generalize w9.drew = v0 at *
  refine wpAnyH_take (i := 0) (oi := { dst := some 55, op := Op.move (Operand.tmp 1), type := 9, pos := "law.go:60", after := #[], guard := none }) (v := ?_) rfl (by kernel_rfl) (by kernel_rfl) (by kernel_rfl) (fun _ _ _ h => h) (Or.inl ⟨by kernel_rfl, ?_⟩) hHeld ?_
  rotate_left
  · (intro w hSw; (try dsimp only at hSw); (try unfold SP at hSw); go_simp); try with_reducible rfl
  try simp only [Act.put, List.setIfInBounds_toArray, List.set_cons_zero, List.set_cons_succ]
  refine wpAnyH_take (i := 1) (oi := { dst := some 56, op := Op.move (Operand.tmp 10), type := 9, pos := "law.go:60", after := #[], guard := none }) (v := ?_) rfl (by kernel_rfl) (by kernel_rfl) (by kernel_rfl) (fun _ _ _ h => h) (Or.inl ⟨by kernel_rfl, ?_⟩) hHeld ?_
  rotate_left
  · (intro w hSw; (try dsimp only at hSw); (try unfold SP at hSw); go_simp); try with_reducible rfl
  try simp only [Act.put, List.setIfInBounds_toArray, List.set_cons_zero, List.set_cons_succ]
  refine wpAnyH_take (i := 2) (oi := { dst := some 57, op := Op.move (Operand.tmp 10), type := 9, pos := "law.go:60", after := #[], guard := none }) (v := ?_) rfl (by kernel_rfl) (by kernel_rfl) (by kernel_rfl) (fun _ _ _ h => h) (Or.inl ⟨by kernel_rfl, ?_⟩) hHeld ?_
  rotate_left
  · (intro w hSw; (try dsimp only at hSw); (try unfold SP at hSw); go_simp); try with_reducible rfl
  try simp only [Act.put, List.setIfInBounds_toArray, List.set_cons_zero, List.set_cons_succ]
  refine wpAnyH_take (i := 3) (oi := { dst := some 58, op := Op.move (Operand.tmp 1), type := 9, pos := "law.go:60", after := #[], guard := none }) (v := ?_) rfl (by kernel_rfl) (by kernel_rfl) (by kernel_rfl) (fun _ _ _ h => h) (Or.inl ⟨by kernel_rfl, ?_⟩) hHeld ?_
  rotate_left
  · (intro w hSw; (try dsimp only at hSw); (try unfold SP at hSw); go_simp); try with_reducible rfl
  try simp only [Act.put, List.setIfInBounds_toArray, List.set_cons_zero, List.set_cons_succ]
  refine wpAnyH_take (i := 4) (oi := { dst := some 59, op := Op.binOp BinOp.add 9 (Operand.tmp 57) (Operand.tmp 58) 9, type := 9, pos := "law.go:60", after := #[{ on := 2, ground := Ground.data }, { on := 3, ground := Ground.data }], guard := none }) (v := ?_) rfl (by kernel_rfl) (by kernel_rfl) (by kernel_rfl) (fun _ _ _ h => h) (Or.inl ⟨by kernel_rfl, ?_⟩) hHeld ?_
  rotate_left
  · (intro w hSw; (try dsimp only at hSw); (try unfold SP at hSw); go_simp); try with_reducible rfl
  try simp only [Act.put, List.setIfInBounds_toArray, List.set_cons_zero, List.set_cons_succ]
  refine wpAnyH_take (i := 5) (oi := { dst := some 60, op := Op.move (Operand.tmp 12), type := 44, pos := "law.go:60", after := #[], guard := none }) (v := ?_) rfl (by kernel_rfl) (by kernel_rfl) (by kernel_rfl) (fun _ _ _ h => h) (Or.inl ⟨by kernel_rfl, ?_⟩) hHeld ?_
  rotate_left
  · (intro w hSw; (try dsimp only at hSw); (try unfold SP at hSw); go_simp); try with_reducible rfl
  try simp only [Act.put, List.setIfInBounds_toArray, List.set_cons_zero, List.set_cons_succ]
  refine wpAnyH_take (i := 6) (oi := { dst := some 61, op := Op.convert 44 9 (Operand.tmp 60), type := 9, pos := "law.go:60", after := #[{ on := 5, ground := Ground.data }], guard := none }) (v := ?_) rfl (by kernel_rfl) (by kernel_rfl) (by kernel_rfl) (fun _ _ _ h => h) (Or.inl ⟨by kernel_rfl, ?_⟩) hHeld ?_
  rotate_left
  · (intro w hSw; (try dsimp only at hSw); (try unfold SP at hSw); go_simp); try with_reducible rfl
  try simp only [Act.put, List.setIfInBounds_toArray, List.set_cons_zero, List.set_cons_succ]
  refine wpAnyH_take (i := 7) (oi := { dst := some 62, op := Op.move (Operand.tmp 12), type := 44, pos := "law.go:60", after := #[], guard := none }) (v := ?_) rfl (by kernel_rfl) (by kernel_rfl) (by kernel_rfl) (fun _ _ _ h => h) (Or.inl ⟨by kernel_rfl, ?_⟩) hHeld ?_
  rotate_left
  · (intro w hSw; (try dsimp only at hSw); (try unfold SP at hSw); go_simp); try with_reducible rfl
  try simp only [Act.put, List.setIfInBounds_toArray, List.set_cons_zero, List.set_cons_succ]
  refine wpAnyH_take (i := 8) (oi := { dst := some 63, op := Op.move (Operand.tmp 12), type := 44, pos := "law.go:60", after := #[], guard := none }) (v := ?_) rfl (by kernel_rfl) (by kernel_rfl) (by kernel_rfl) (fun _ _ _ h => h) (Or.inl ⟨by kernel_rfl, ?_⟩) hHeld ?_
  rotate_left
  · (intro w hSw; (try dsimp only at hSw); (try unfold SP at hSw); go_simp); try with_reducible rfl
  try simp only [Act.put, List.setIfInBounds_toArray, List.set_cons_zero, List.set_cons_succ]
  refine wpAnyH_take (i := 9) (oi := { dst := some 64, op := Op.call { callee := Callee.builtin Builtin.len, args := #[Operand.tmp 63], argTypes := #[44] }, type := 3, pos := "law.go:60", after := #[{ on := 8, ground := Ground.data }], guard := none }) (v := ?_) rfl (by kernel_rfl) (by kernel_rfl) (by kernel_rfl) (fun _ _ _ h => h) (Or.inl ⟨by kernel_rfl, ?_⟩) hHeld ?_
  rotate_left
  · (intro w hSw; (try dsimp only at hSw); (try unfold SP at hSw); go_simp); try with_reducible rfl
  try simp only [Act.put, List.setIfInBounds_toArray, List.set_cons_zero, List.set_cons_succ]
  refine wpAnyH_take (i := 10) (oi := { dst := some 65, op := Op.binOp BinOp.sub 3 (Operand.tmp 64) (Operand.const (Value.int IntKind.i64 1)) 3, type := 3, pos := "law.go:60", after := #[{ on := 9, ground := Ground.data }], guard := none }) (v := ?_) rfl (by kernel_rfl) (by kernel_rfl) (by kernel_rfl) (fun _ _ _ h => h) (Or.inl ⟨by kernel_rfl, ?_⟩) hHeld ?_
  rotate_left
  · (intro w hSw; (try dsimp only at hSw); (try unfold SP at hSw); go_simp); try with_reducible rfl
  try simp only [Act.put, List.setIfInBounds_toArray, List.set_cons_zero, List.set_cons_succ]
  refine wpAnyH_take (i := 11) (oi := { dst := some 66, op := Op.slice 44 (Operand.tmp 62) none (some (Operand.tmp 65)) none, type := 44, pos := "law.go:60", after := #[{ on := 7, ground := Ground.data }, { on := 10, ground := Ground.data }], guard := none }) (v := ?_) rfl (by kernel_rfl) (by kernel_rfl) (by kernel_rfl) (fun _ _ _ h => h) (Or.inl ⟨by kernel_rfl, ?_⟩) hHeld ?_
  rotate_left
  · (intro w hSw; (try dsimp only at hSw); (try unfold SP at hSw); go_simp); try with_reducible rfl
  try simp only [Act.put, List.setIfInBounds_toArray, List.set_cons_zero, List.set_cons_succ]
  refine wpAnyH_take (i := 12) (oi := { dst := some 67, op := Op.convert 44 9 (Operand.tmp 66), type := 9, pos := "law.go:60", after := #[{ on := 11, ground := Ground.data }], guard := none }) (v := ?_) rfl (by kernel_rfl) (by kernel_rfl) (by kernel_rfl) (fun _ _ _ h => h) (Or.inl ⟨by kernel_rfl, ?_⟩) hHeld ?_
  rotate_left
  · (intro w hSw; (try dsimp only at hSw); (try unfold SP at hSw); go_simp); try with_reducible rfl
  try simp only [Act.put, List.setIfInBounds_toArray, List.set_cons_zero, List.set_cons_succ]
  refine wpAnyH_take (i := 13) (oi := { dst := some 68, op := Op.move (Operand.tmp 10), type := 9, pos := "law.go:60", after := #[], guard := none }) (v := ?_) rfl (by kernel_rfl) (by kernel_rfl) (by kernel_rfl) (fun _ _ _ h => h) (Or.inl ⟨by kernel_rfl, ?_⟩) hHeld ?_
  rotate_left
  · (intro w hSw; (try dsimp only at hSw); (try unfold SP at hSw); go_simp); try with_reducible rfl
  try simp only [Act.put, List.setIfInBounds_toArray, List.set_cons_zero, List.set_cons_succ]
  refine wpAnyH_take (i := 14) (oi := { dst := some 69, op := Op.indexAddr 43 (Operand.tmp 5) (Operand.const (Value.int IntKind.i64 0)), type := 0, pos := "law.go:60", after := #[], guard := none }) (v := ?_) rfl (by kernel_rfl) (by kernel_rfl) (by kernel_rfl) (fun _ _ _ h => h) (Or.inl ⟨by kernel_rfl, ?_⟩) hHeld ?_
  rotate_left
  · (intro w hSw; (try dsimp only at hSw); (try unfold SP at hSw); go_simp); try with_reducible rfl
  try simp only [Act.put, List.setIfInBounds_toArray, List.set_cons_zero, List.set_cons_succ]
  refine wpAnyH_take (i := 15) (oi := { dst := some 70, op := Op.load 42 (Operand.tmp 69), type := 42, pos := "law.go:60", after := #[{ on := 14, ground := Ground.data }], guard := none }) (v := ?_) rfl (by kernel_rfl) (by kernel_rfl) (by kernel_rfl) (fun _ _ _ h => h) (Or.inl ⟨by kernel_rfl, ?_⟩) hHeld ?_
  rotate_left
  · (intro w hSw; (try dsimp only at hSw); (try unfold SP at hSw); go_simp); try with_reducible rfl
  try simp only [Act.put, List.setIfInBounds_toArray, List.set_cons_zero, List.set_cons_succ]
  refine wpAnyH_take (i := 16) (oi := { dst := some 71, op := Op.convert 42 3 (Operand.tmp 70), type := 3, pos := "law.go:60", after := #[{ on := 15, ground := Ground.data }], guard := none }) (v := ?_) rfl (by kernel_rfl) (by kernel_rfl) (by kernel_rfl) (fun _ _ _ h => h) (Or.inl ⟨by kernel_rfl, ?_⟩) hHeld ?_
  rotate_left
  · (intro w hSw; (try dsimp only at hSw); (try unfold SP at hSw); go_simp); try with_reducible rfl
  try simp only [Act.put, List.setIfInBounds_toArray, List.set_cons_zero, List.set_cons_succ]
  refine wpAnyH_take (i := 17) (oi := { dst := some 72, op := Op.move (Operand.tmp 10), type := 9, pos := "law.go:60", after := #[], guard := none }) (v := ?_) rfl (by kernel_rfl) (by kernel_rfl) (by kernel_rfl) (fun _ _ _ h => h) (Or.inl ⟨by kernel_rfl, ?_⟩) hHeld ?_
  rotate_left
  · (intro w hSw; (try dsimp only at hSw); (try unfold SP at hSw); go_simp); try with_reducible rfl
  try simp only [Act.put, List.setIfInBounds_toArray, List.set_cons_zero, List.set_cons_succ]
  refine wpAnyH_take (i := 18) (oi := { dst := some 73, op := Op.call { callee := Callee.builtin Builtin.len, args := #[Operand.tmp 72], argTypes := #[9] }, type := 3, pos := "law.go:60", after := #[{ on := 17, ground := Ground.data }], guard := none }) (v := ?_) rfl (by kernel_rfl) (by kernel_rfl) (by kernel_rfl) (fun _ _ _ h => h) (Or.inl ⟨by kernel_rfl, ?_⟩) hHeld ?_
  rotate_left
  · (intro w hSw; (try dsimp only at hSw); (try unfold SP at hSw); go_simp); try with_reducible rfl
  try simp only [Act.put, List.setIfInBounds_toArray, List.set_cons_zero, List.set_cons_succ]
  refine wpAnyH_take (i := 19) (oi := { dst := some 74, op := Op.binOp BinOp.add 3 (Operand.tmp 73) (Operand.const (Value.int IntKind.i64 1)) 3, type := 3, pos := "law.go:60", after := #[{ on := 18, ground := Ground.data }], guard := none }) (v := ?_) rfl (by kernel_rfl) (by kernel_rfl) (by kernel_rfl) (fun _ _ _ h => h) (Or.inl ⟨by kernel_rfl, ?_⟩) hHeld ?_
  rotate_left
  · (intro w hSw; (try dsimp only at hSw); (try unfold SP at hSw); go_simp); try with_reducible rfl
  try simp only [Act.put, List.setIfInBounds_toArray, List.set_cons_zero, List.set_cons_succ]
  refine wpAnyH_take (i := 20) (oi := { dst := some 75, op := Op.binOp BinOp.rem 3 (Operand.tmp 71) (Operand.tmp 74) 3, type := 3, pos := "law.go:60", after := #[{ on := 16, ground := Ground.data }, { on := 19, ground := Ground.data }], guard := none }) (v := ?_) rfl (by kernel_rfl) (by kernel_rfl) (by kernel_rfl) (fun _ _ _ h => h) (Or.inl ⟨by kernel_rfl, ?_⟩) hHeld ?_
  rotate_left
  · (intro w hSw; (try dsimp only at hSw); (try unfold SP at hSw); go_simp); try with_reducible rfl
  try simp only [Act.put, List.setIfInBounds_toArray, List.set_cons_zero, List.set_cons_succ]
  refine wpAnyH_take (i := 21) (oi := { dst := some 76, op := Op.slice 9 (Operand.tmp 68) none (some (Operand.tmp 75)) none, type := 9, pos := "law.go:60", after := #[{ on := 13, ground := Ground.data }, { on := 20, ground := Ground.data }], guard := none }) (v := ?_) rfl (by kernel_rfl) (by kernel_rfl) (by kernel_rfl) (fun _ _ _ h => h) (Or.inl ⟨by kernel_rfl, ?_⟩) hHeld ?_
  rotate_left
  · (intro w hSw; (try dsimp only at hSw); (try unfold SP at hSw); go_simp); try with_reducible rfl
  try simp only [Act.put, List.setIfInBounds_toArray, List.set_cons_zero, List.set_cons_succ]
  refine wpAnyH_take (i := 24) (oi := { dst := some 79, op := Op.move (Operand.const (Value.int IntKind.i64 0)), type := 3, pos := "law.go:60", after := #[], guard := none }) (v := ?_) rfl (by kernel_rfl) (by kernel_rfl) (by kernel_rfl) (fun _ _ _ h => h) (Or.inl ⟨by kernel_rfl, ?_⟩) hHeld ?_
  rotate_left
  · (intro w hSw; (try dsimp only at hSw); (try unfold SP at hSw); go_simp); try with_reducible rfl
  try simp only [Act.put, List.setIfInBounds_toArray, List.set_cons_zero, List.set_cons_succ]
  refine wpAnyH_ready (rs := [22]) (by kernel_rfl) (by simp) (AllReadyH.cons (o := { dst := some 77, op := Op.buildSlice 45 6 #[(0, Operand.tmp 55), (1, Operand.tmp 56), (2, Operand.tmp 59), (3, Operand.tmp 61), (4, Operand.tmp 67), (5, Operand.tmp 76)], type := 45, pos := "law.go:60", after := #[{ on := 0, ground := Ground.data }, { on := 1, ground := Ground.data }, { on := 4, ground := Ground.data }, { on := 6, ground := Ground.data }, { on := 12, ground := Ground.data }, { on := 21, ground := Ground.data }], guard := none }) rfl (fun K hK => ?_) AllReadyH.nil)
  have hOld := hide hHeld
  clear hHeld
  go_simp
  have HTv2 := hide (tabAt_kept HTv0.out ((Below.refl v0.heap.size v0).alloc (Nat.le_refl _) (.cells #[.string b0, .string b1, .string b2, .string b3, .string b4, .string b5] 9)))
  have HBv2 := hide (HBv0.out.alloc HBv0.out.size (.cells #[.string b0, .string b1, .string b2, .string b3, .string b4, .string b5] 9))
  have HSv2 := hide (heap_new v0 (.cells #[.string b0, .string b1, .string b2, .string b3, .string b4, .string b5] 9))
  have HSPv2 := hide (HSPF.out _ ((heap_old v0 (.cells #[.string b0, .string b1, .string b2, .string b3, .string b4, .string b5] 9) _ (heap_lt HAv0.out)).trans HAv0.out) ((heap_old v0 (.cells #[.string b0, .string b1, .string b2, .string b3, .string b4, .string b5] 9) _ (heap_lt HRv0.out)).trans HRv0.out))
  generalize hq2 : World.alloc v0 (.cells #[.string b0, .string b1, .string b2, .string b3, .string b4, .string b5] 9) = v2 at *
  generalize hb2 : v0.heap.size = sb at *
  clear hq2 hb2
  (try go_wp2_with fail)
  refine hK.out _ _ (HSPv2.out) (fun hHeld => ?_)
  clear hK K hOld
  try simp only [Act.put, List.setIfInBounds_toArray, List.set_cons_zero, List.set_cons_succ]
  refine wpAnyH_take (i := 23) (oi := { dst := some 78, op := Op.call { callee := Callee.builtin Builtin.len, args := #[Operand.tmp 77], argTypes := #[45] }, type := 3, pos := "law.go:60", after := #[{ on := 22, ground := Ground.data }], guard := none }) (v := ?_) rfl (by kernel_rfl) (by kernel_rfl) (by kernel_rfl) (fun _ _ _ h => h) (Or.inl ⟨by kernel_rfl, ?_⟩) hHeld ?_
  rotate_left
  · (intro w hSw; (try dsimp only at hSw); (try unfold SP at hSw); go_simp); try with_reducible rfl
  try simp only [Act.put, List.setIfInBounds_toArray, List.set_cons_zero, List.set_cons_succ]
  refine wpAnyH_done (by kernel_rfl) ?_ _
  clear hHeld HSPv0 HTv0 HBv0
  go_wp2_with fail
  go_loopw [79] (fun i W => ∃ j : Nat, j ≤ 6 ∧ i = .int .i64 j ∧ TabAt W pb 0 ∧ W.heap[sb]? = some (.cells #[.string b0, .string b1, .string b2, .string b3, .string b4, .string b5] 9 (0, 0)) ∧ Below w.heap.size w W) (fun i _ => 6 - (intOf i).toNat)
  case atStart => exact ⟨0, by omega, rfl, HTv2.out, HSv2.out, HBv2.out⟩
  case round =>
    clear HTv2 HSv2 HBv2
    obtain ⟨j, hj, rfl, h1, h2, h3⟩ := hrel
    have HT := hide h1
    have HS := hide h2
    have HB := hide h3
    clear h1 h2 h3
    by_cases hlt : j < 6
    · obtain ⟨p, hpl, hcell⟩ := six_strings HS.out H0.out H1.out H2.out H3.out H4.out H5.out j hlt
      have hjI : (j : Int) < 6 := by omega
      have HPA := hide (fun W h => recParse_any pb 0 p (by omega) W h)
      have HPR := hide (fun W => rparse_any p (by omega) W)
      have HPL := hide (fun L h => Nat.le_trans (parse_len p.length p L (Nat.le_refl _) h) hpl)
      generalize parseP p = res at *
      generalize bs p = t at *
      go_wp2_with fail
      refine (HPA.out _ HT.out).mono ?_
      rintro e w10 ⟨L1, d1, f1, er1, rfl, hc1, hin1, hb10⟩
      have HT10 := hide (tabAt_kept HT.out hb10)
      have HS10 := hide ((hb10.block _ (heap_lt HS.out)).trans HS.out)
      have HB10 := hide (HB.out.trans (hb10.mono HB.out.size))
      have HI10 := hide hin1
      have HC1 := hide hc1
      have hL1 : L1.length ≤ 400000 := by
        rcases hc1 with ⟨h1, -⟩ | ⟨-, -, h1⟩
        · exact HPL.out L1 h1
        · rw [h1]; simp
      clear hb10 hc1 hin1 HT HS HB HPA hcell
      go_wp2_with fail
      refine (HPR.out _).mono ?_
      rintro e w11 ⟨L2, d2, f2, er2, rfl, hc2, hin2, hb11⟩
      obtain ⟨rfl, rfl⟩ := except_same HC1.out hc2
      have HT11 := hide (tabAt_kept HT10.out hb11)
      have HS11 := hide ((hb11.block _ (heap_lt HS10.out)).trans HS10.out)
      have HB11 := hide (HB10.out.trans (hb11.mono HB10.out.size))
      have HI11 := hide (HI10.out.below hb11)
      have HJ11 := hide hin2
      clear hb11 hc2 hin2 HC1 HT10 HS10 HB10 HI10 HPR
      go_wp2_with fail
      go_loopw [105] (fun i W => ∃ t : Nat, t ≤ L1.length ∧ i = .int .i64 t ∧ RecsIn W d1 L1 ∧ RecsIn W d2 L1 ∧ TabAt W pb 0 ∧ W.heap[sb]? = some (.cells #[.string b0, .string b1, .string b2, .string b3, .string b4, .string b5] 9 (0, 0)) ∧ Below w.heap.size w W) (fun i _ => L1.length - (intOf i).toNat)
      case atStart => exact ⟨0, by omega, rfl, HI11.out, HJ11.out, HT11.out, HS11.out, HB11.out⟩
      case round =>
        clear HI11 HJ11 HT11 HS11 HB11
        obtain ⟨u, hu, rfl, h1, h2, h3, h4, h5⟩ := hrel
        have HI12 := hide h1
        have HJ12 := hide h2
        have HT12 := hide h3
        have HS12 := hide h4
        have HB12 := hide h5
        clear h1 h2 h3 h4 h5
        by_cases hul : u < L1.length
        · obtain ⟨g1, o1, rfl, -, p1, p2⟩ := HI12.out u hul
          obtain ⟨g2, o2, rfl, -, p3, p4⟩ := HJ12.out u hul
          have huI : (u : Int) < (L1.length : Int) := by omega
          generalize ((L1.getD u rc0).1.toNat : Int) = u1 at *
          generalize bs (L1.getD u rc0).2 = u2 at *
          go_wp2_with fail
          go_quiet (fail)
          go_wp2_with fail
          go_roundw
          case rel => exact ⟨u + 1, by omega, by go_num, HI12.out.drewN _, HJ12.out.drewN _, tabAt_drewN HT12.out _, HS12.out, below_drewN' HB12.out _⟩
          case measure => simp [intOf]; omega
        · obtain rfl : u = L1.length := by omega
          go_wp2_with fail
          go_roundw
          case rel => exact ⟨j + 1, by omega, by go_num, HT12.out, HS12.out, HB12.out⟩
          case measure => simp [intOf]; omega
    · obtain rfl : j = 6 := by omega
      go_wp2_with fail
      refine (HRN.out _).mono ?_
      rintro e w10 ⟨rfl, hb10⟩
      have HB10 := hide (HB.out.trans (hb10.mono HB.out.size))
      clear hb10 HB
      go_wp2_with fail
      refine (wakes19 _).mono ?_
      rintro e w11 ⟨rfl, hb11⟩
      have HB11 := hide (HB10.out.trans (hb11.mono HB10.out.size))
      clear hb11 HB10
      go_wp2_with fail
      go_ret
      exact ⟨rfl, HB11.out⟩
theorem recParses_all (v : Value) (raw : ByteArray) (hraw : raw.size ≤ 9223372036854775807) (u : Value) (hu : ∃ xs : List Int, xs.length = 2 ∧ u = .agg (xs.map (Value.int .u16)).toArray ∧ ∀ x ∈ xs, (Lit.int .u16 x).wf = true) (w : World) (hv : RecsV w v) :
    Calls Try.prog 4 #[v, .string raw, u] w fun e w' => e = .returned (.bool true) ∧ Below w.heap.size w w' := by
  obtain ⟨xs, hl, rfl, hx⟩ := hu
  match xs, hl, hx with
  | [a0, a1], _, hx =>
    have h0 := wf_u16 (hx a0 (by simp))
    have h1 := wf_u16 (hx a1 (by simp))
    exact recParses_walk v raw hraw a0 a1 h0.1 h0.2 h1.1 h1.2 w hv

set_option maxRecDepth 100000 in
theorem recParses_lifted (os : Os) (started : os.Started) (H : Type) (enc : TypeId × Value → H) :
    ReturnsInHanded {} Try.checked os 4 .any (Rows.recParsesSpec.pre6 enc Try.prog Try.f4 Rows.recParsesRow.domain false) (Rows.recParsesSpec.post enc Try.prog Try.f4 false true false false) := by
  refine returnsInHanded_of_change (C := Try.checked) own started (by kernel_rfl) Try.func4
    (ChangeSpec.witness6 (enc := enc) (C := Try.checked) false ⟨#[], #[.slice none 0 0, .string ⟨#[]⟩, .agg #[.int .u16 0, .int .u16 0]], []⟩ 8 (by kernel_rfl) (by kernel_rfl) (by kernel_rfl) (by kernel_rfl)) ?_
  intro W base args ds gs before hval0 hW _ _
  have hval : ∀ (j : Nat) t v, Try.f4.params[j]? = some t → args[j]? = some v → Value.okWide Try.prog W .any base t v := hval0
  have hW' := hW
  obtain ⟨p, q, hA0, hV, rfl, hfz, hnd⟩ := hW
  have hA : DataW.TrodAll enc Try.prog W 0 (fun _ => true) true Try.f4.params.toList args.toList ds p := hA0
  rw [Try.params4] at hA hval
  obtain ⟨v0, vs0, d0, ds0, p0, q0, hargs, rfl, rfl, h0, r0⟩ := trodAll_cons hA
  obtain ⟨v1, vs1, d1, ds1, p1, q1, rfl, rfl, rfl, h1, r1⟩ := trodAll_cons r0
  obtain ⟨v2, vs2, d2, ds2, p2, q2, rfl, rfl, rfl, h2, r2⟩ := trodAll_cons r1
  obtain ⟨rfl, rfl, rfl⟩ := trodAll_nil r2
  obtain rfl : args = #[v0, v1, v2] := by cases args; simp_all
  obtain ⟨rfl, rfl⟩ := trodVars_none hV
  have z0 := open_recs (hval 0 22 v0 rfl rfl) h0
  obtain ⟨raw, rfl, rfl, rfl, w1⟩ := ChangeMaps.open_string Try.underlying9 (hval 1 9 v1 rfl rfl) h1
  have z1 : raw.size ≤ 9223372036854775807 := w1
  have z2 := open_nums_array 2 Try.underlying43 Try.underlying42 (by kernel_rfl) (by kernel_rfl) (hval 2 43 v2 rfl rfl) h2
  clear hA0 hval0
  refine (recParses_all v0 raw z1 v2 z2 W z0).mono fun e W' ⟨he, hb⟩ => ?_
  subst he
  exact ⟨_, rfl, post_law laidOut (of_decide_eq_true (by kernel_rfl)) rfl rfl Try.underlying4 hW' ⟨rfl, rfl, rfl⟩ hb⟩

/-- THE STATEMENT -/
theorem recParses_holds : Rows.RecParsesSaid :=
  OpenClaim.holds_of_wide 4 Try.f4 rfl rfl rfl rfl rfl rfl rfl ⟨rfl, rfl, rfl, rfl, rfl⟩ rfl rfl rfl rfl rfl (by kernel_rfl) Try.func4 (by kernel_rfl)
    (of_decide_eq_true (by kernel_rfl)) (by unfold Func.isWrapper; first | (rw [if_pos (by decide +kernel)]; kernel_rfl) | (rw [if_neg (by decide +kernel)]; exact ⟨rfl, rfl⟩))
    (fun os started H enc _ => recParses_lifted os started H enc)

end Go.Proofs.Ytdjaldkjpmcbdaa
