import Derived.Test.YtbnbfnlfgmlcgaaSaleR2
import Derived.Test.YtbnbfnlfgmlcgaaSale5
import Derived.Test.YtbnbfnlfgmlcgaaRSale7
import Derived.Test.YtbnbfnlfgmlcgaaSaleS2
import Derived.Test.YtbnbfnlfgmlcgaaSale8
import Derived.Test.YtbnbfnlfgmlcgaaKitRow
import Derived.Test.YtbnbfnlfgmlcgaaKitT
import Derived.Deep.CutBlock
/-
  Layer 25: nil registers; Read where so many may not be kept.
-/
--import Derived.Test.Zdbg
namespace Go.Proofs.Ytbnbfnlfgmlcgaa
set_option linter.unusedSimpArgs false
set_option linter.unusedVariables false
open Go.RowKit Go.WideShapes Go.ChangeShapes Go.ChangeAt Go.Deep
set_option maxRecDepth 100000 in
theorem slnew_no (k : Int) (h : ¬ (1 ≤ k ∧ k ≤ 512)) (w : World) :
    Calls Try.prog 23 #[.int .i64 k] w fun e w' => e = .returned (.tuple #[.pointer none, .int .i64 2]) ∧ w = w' := by
  go_enter Try.func23, Try.ntmps23
  by_cases h1 : k < 1
  · go_wp2_with fail
    go_ret2
    exact ⟨rfl, rfl⟩
  · have h2 : 512 < k := by omega
    go_wp2_with fail
    go_ret2
    exact ⟨rfl, rfl⟩
set_option maxRecDepth 100000 in
theorem slread_arg (r : Nat) (kp : Int) (h : ¬ (1 ≤ kp ∧ kp ≤ 512)) (w : World) : Calls Try.prog 11 #[.pointer (some ⟨r, 0, none⟩), .int .i64 kp] w fun e w' => e = .returned (.tuple #[.pointer none, .int .i64 2]) ∧ w = w' := by
  have HN := hide (fun W => slnew_no kp h W)
  clear h
  go_enter Try.func11, Try.ntmps11
  go_wp2_with fail
  refine (HN.out _).mono ?_
  rintro e w1 ⟨rfl, rfl⟩
  go_wp2_with fail
  go_ret2
  exact ⟨rfl, rfl⟩
set_option maxRecDepth 100000 in
theorem slread_none (w : World) : Calls Try.prog 11 #[.pointer none, .int .i64 3] w fun e w' => e = .returned (.tuple #[.pointer none, .int .i64 4]) ∧ Below w.heap.size w w' := by
  have HN := hide (fun W => slnew_ok 3 (by decide) (by decide) W)
  go_enter Try.func11, Try.ntmps11
  go_wp2_with fail
  refine (HN.out _).mono ?_
  rintro e w1 ⟨p, rfl, -, hb⟩
  go_wp2_with fail
  refine (wrong_nil _).mono ?_
  rintro e w2 ⟨rfl, rfl⟩
  go_wp2_with fail
  go_ret2
  exact ⟨rfl, hb⟩
set_option maxRecDepth 100000 in
theorem slwrite_none (q : Nat) (w : World) : Calls Try.prog 15 #[.pointer none, .pointer (some ⟨q, 0, none⟩)] w fun e w' => e = .returned (.tuple #[]) ∧ w = w' := by
  go_enter Try.func15, Try.ntmps15
  go_wp2_with fail
  refine bodyPost_ret (results_none rfl _ _ _) rfl ?_
  exact ⟨rfl, rfl⟩
set_option maxRecDepth 100000 in
theorem slnext_none (w : World) : Calls Try.prog 20 #[.pointer none] w fun e w' => e = .returned (.int .i64 0) ∧ w = w' := by
  go_enter Try.func20, Try.ntmps20
  go_wp2_with fail
  go_ret
  exact ⟨rfl, rfl⟩
set_option maxRecDepth 100000 in
theorem sllist_none (w : World) : Calls Try.prog 21 #[.pointer none] w fun e w' => e = .returned (.slice none 0 0) ∧ w = w' := by
  go_enter Try.func21, Try.ntmps21
  go_wp2_with fail
  go_ret
  exact ⟨rfl, rfl⟩
set_option maxRecDepth 100000 in
theorem slcopy_none (w : World) : Calls Try.prog 22 #[.pointer none] w fun e w' => e = .returned (.pointer none) ∧ w = w' := by
  go_enter Try.func22, Try.ntmps22
  go_wp2_with fail
  go_ret
  exact ⟨rfl, rfl⟩
set_option maxRecDepth 100000 in
theorem slfind0_none (n : Int) (w : World) : Calls Try.prog 42 #[.pointer none, .int .i64 n] w fun e w' => e = .returned (.pointer none) ∧ ∃ m, w' = w.drewN m := by
  go_enter Try.func42, Try.ntmps42
  go_wp2_with fail
  go_quiet (fail)
  go_wp2_with fail
  go_ret
  exact ⟨rfl, _, rfl⟩
set_option maxRecDepth 100000 in
theorem slget_none (n : Int) (w : World) : Calls Try.prog 18 #[.pointer none, .int .i64 n] w fun e w' => e = .returned (.tuple #[txV ta0, .bool false]) ∧ Below w.heap.size w w' := by
  have X1 := hide (heap_new w (.cells #[.int .i64 0, .int .u8 0, .int .i64 0, .int .i64 0, .int .i64 0, .int .i64 0, .bool false, .slice none 0 0] 35))
  have B1 := hide ((Below.refl w.heap.size w).alloc (Nat.le_refl _) (.cells #[.int .i64 0, .int .u8 0, .int .i64 0, .int .i64 0, .int .i64 0, .int .i64 0, .bool false, .slice none 0 0] 35))
  go_enter Try.func18, Try.ntmps18
  go_upto_region 1 with (fail)
  generalize w.alloc (.cells #[.int .i64 0, .int .u8 0, .int .i64 0, .int .i64 0, .int .i64 0, .int .i64 0, .bool false, .slice none 0 0] 35) = w1 at *
  go_wp2_with fail
  refine (slfind0_none n _).mono ?_
  rintro e w3 ⟨rfl, m, rfl⟩
  have X3 := hide (show (w1.drewN m).heap[w.heap.size]? = _ from X1.out)
  have B3 := hide (below_dn B1.out m)
  clear X1 B1
  generalize w1.drewN m = w3 at *
  go_wp2_with (refine rw_store rfl 35 (.tmp 4) (.tmp 12) rfl w.heap.size rfl #[.int .i64 0, .int .u8 0, .int .i64 0, .int .i64 0, .int .i64 0, .int .i64 0, .bool false, .slice none 0 0] rfl _ X3.out (by kernel_rfl) rfl (by simp [Value.oneCell']) ?_)
  have XF := hide (setRow_same (cs := #[.int .i64 0, .int .u8 0, .int .i64 0, .int .i64 0, .int .i64 0, .int .i64 0, .bool false, .slice none 0 0]) X3.out)
  have BF := hide (setRow_below B3.out (Nat.le_refl _) B3.out.size #[.int .i64 0, .int .u8 0, .int .i64 0, .int .i64 0, .int .i64 0, .int .i64 0, .bool false, .slice none 0 0])
  (try simp only [Exit.inBlock, Exit.then])
  refine bodyPost_ret (res_ct (P := Try.prog) rfl _ _ w.heap.size 35 #[.int .i64 0, .int .u8 0, .int .i64 0, .int .i64 0, .int .i64 0, .int .i64 0, .bool false, .slice none 0 0] (0, 0) _ rfl XF.out Try.underlying35 rfl (by kernel_rfl)) rfl ?_
  exact ⟨rfl, BF.out⟩
set_option maxRecDepth 100000 in
theorem sladd_none (x : TxA) (w : World) : Calls Try.prog 17 #[.pointer none, txV x] w fun e w' => e = .returned (.tuple #[.int .i64 0, .int .i64 1]) ∧ Below w.heap.size w w' := by
  unfold txV txC
  go_enter Try.func17, Try.ntmps17
  go_wp2_with fail
  go_ret2
  exact ⟨rfl, (Below.refl _ _).alloc (Nat.le_refl _) _⟩
end Go.Proofs.Ytbnbfnlfgmlcgaa

/-
  Layer 25: SaleReads: the register of all bytes, of every keep, is the document's, or its error; what stands behind it isn't read; of a nil one nothing is told. No condition.
-/
--import Derived.Test.Zdbg
namespace Go.Proofs.Ytbnbfnlfgmlcgaa
set_option linter.unusedSimpArgs false
set_option linter.unusedVariables false
open Go.RowKit Go.WideShapes Go.ChangeShapes Go.ChangeAt Go.Deep
theorem xor_byte (x : UInt8) (a : Int) (h0 : 0 ≤ a) (h1 : a ≤ 255) : ∃ y : UInt8, bits .xor .u8 (x.toNat : Int) a = (y.toNat : Int) := by
  refine ⟨x ^^^ UInt8.ofNat a.toNat, ?_⟩
  have h2 : (UInt8.ofNat a.toNat).toNat = a.toNat := by simp; omega
  rw [UInt8.toNat_xor, h2, ← u8_xor_nat _ _ (x.toNat_lt) (by omega), Int.toNat_of_nonneg h0]
/-- what a region reads -/
def SP3 (ab rb n1 zz : Nat) (a0 : Int) (b2 : ByteArray) (W : World) : Prop :=
  W.cell? ⟨ab, 0, none⟩ = some (.int .u16 a0) ∧
  (convert 44 9 (.slice (some ⟨rb, 0, none⟩) n1 (n1 + zz))).run Try.prog W = .ok (.string b2) W
theorem SP3.of {ab rb n1 zz : Nat} {a0 a1 : Int} {T : List UInt8} {W : World} {fr : Nat × Nat} (ha : W.heap[ab]? = some (.cells #[.int .u16 a0, .int .u16 a1] 24 (0, 0))) (hr : W.heap[rb]? = some (.cells (rowC T zz) 5 fr)) (hl : T.length = n1) : SP3 ab rb n1 zz a0 (bs T) W := by
  refine ⟨cell_of_block ha 0, conv_bytes W rb 0 n1 _ T hl (fun i hi => ?_)⟩
  rw [Nat.zero_add, cell_of_block hr, rowC_at T zz i (by omega)]
theorem four_strings {W : World} {sb t : Nat} {b0 b1 b2 b3 : ByteArray} {N : Nat} (h : W.heap[sb]? = some (.cells #[.string b0, .string b1, .string b2, .string b3] t (0, 0)))
    (h0 : ∃ q : List UInt8, b0 = bs q ∧ q.length ≤ N) (h1 : ∃ q : List UInt8, b1 = bs q ∧ q.length ≤ N) (h2 : ∃ q : List UInt8, b2 = bs q ∧ q.length ≤ N) (h3 : ∃ q : List UInt8, b3 = bs q ∧ q.length ≤ N) (i : Nat) (hi : i < 4) :
    ∃ q : List UInt8, q.length ≤ N ∧ W.cell? ⟨sb, i, none⟩ = some (.string (bs q)) := by
  have hc : i = 0 ∨ i = 1 ∨ i = 2 ∨ i = 3 := by omega
  rcases hc with rfl | rfl | rfl | rfl
  · obtain ⟨q, rfl, hq⟩ := h0; exact ⟨q, hq, cell_of_block h 0⟩
  · obtain ⟨q, rfl, hq⟩ := h1; exact ⟨q, hq, cell_of_block h 1⟩
  · obtain ⟨q, rfl, hq⟩ := h2; exact ⟨q, hq, cell_of_block h 2⟩
  · obtain ⟨q, rfl, hq⟩ := h3; exact ⟨q, hq, cell_of_block h 3⟩
theorem three_keeps {W : World} {sb t : Nat} (h : W.heap[sb]? = some (.cells #[.int .i64 5, .int .i64 3, .int .i64 0] t (0, 0))) (i : Nat) (hi : i < 3) :
    ∃ kp : Int, ((1 ≤ kp ∧ kp ≤ 512) ∨ kp = 0) ∧ W.cell? ⟨sb, i, none⟩ = some (.int .i64 kp) := by
  have hc : i = 0 ∨ i = 1 ∨ i = 2 := by omega
  rcases hc with rfl | rfl | rfl
  · exact ⟨5, .inl (by omega), cell_of_block h 0⟩
  · exact ⟨3, .inl (by omega), cell_of_block h 1⟩
  · exact ⟨0, .inr rfl, cell_of_block h 2⟩
theorem left_is (r : Nat) (l : List UInt8) (w : World) (h : RQ w r true l) : l.length ≤ 1000000 ∧ Calls Try.prog 14 #[.pointer (some ⟨r, 0, none⟩)] w fun e w' => e = .returned (.int .i64 (l.length : Int)) ∧ w = w' := by
  obtain ⟨s, h1, h2, h3⟩ := h
  have := h2 rfl
  subst this
  refine ⟨by rw [bs_size] at h3; exact h3, ?_⟩
  have h := left_any r (bs l) false w h1
  rw [if_neg (by decide), bs_size] at h
  exact h
theorem wrap_back2 (m : Nat) (r : Int) (hm : m ≤ 1000000) (h0 : 0 ≤ r) (h1 : r ≤ 1000000) : wrap64 r = r ∧ (m : Int) - ((m : Int) - r) = r := by
  refine ⟨?_, by omega⟩
  unfold wrap64; omega
theorem turn_place (a0 : Int) (h0 : 0 ≤ a0) (n1 : Nat) (hn : 1 ≤ n1) : ∃ i : Nat, i < n1 ∧ a0.tmod (n1 : Int) = (i : Int) := by
  obtain ⟨i, hi⟩ := Int.eq_ofNat_of_zero_le (show 0 ≤ a0 % (n1 : Int) from Int.emod_nonneg _ (by omega))
  have h2 := Int.emod_lt_of_pos a0 (show (0 : Int) < (n1 : Int) by omega)
  exact ⟨i, by omega, by rw [Int.tmod_eq_emod_of_nonneg h0]; exact hi⟩
theorem bs_to (l : List UInt8) (b : Nat) : (bs l).extract 0 b = bs (l.take b) := by
  apply ByteArray.ext
  simp [bs]

theorem LnR.lnTy {w : World} {a : Option Addr} {L : List LnM} (h : LnR w a L) : LnTy 87 0 w a L := fun i hi => by
  obtain ⟨b, off, c, fz, h1, h2, h3⟩ := h i hi
  exact ⟨b, off, c, fz, h1, Nat.zero_le _, h2, h3⟩
structure MdS (W : World) (mb : Nat) (nx : Int) (a : Option Addr) (n cp : Nat) (T : List TxA) : Prop where
  head : W.heap[mb]? = some (.cells #[.int .i64 5, .int .i64 nx, .slice a n cp] 27 (0, 0))
  reg : RegD W a cp T
  ok : ∀ y ∈ T, WkOk y.t
  len : T.length = n
  nx : 1 ≤ nx ∧ nx ≤ 4294967296
theorem MdS.below {W W' : World} {mb : Nat} {nx : Int} {a : Option Addr} {n cp : Nat} {T : List TxA} (h : MdS W mb nx a n cp T) (hb : Below W.heap.size W W') : MdS W' mb nx a n cp T := ⟨(hb.block _ (heap_lt h.head)).trans h.head, h.reg.below hb, h.ok, h.len, h.nx⟩
theorem ofL_wk {k s r a c : Int} (hk : 0 ≤ k ∧ k ≤ 255) (hs : inR s) (hr : inR r) (ha : inR a) (hc : inR c) : WkOk ⟨0, k, s, r, a, 0, false, ofL c⟩ := by
  have h := ofTx_ok hk hs hr ha hc
  exact ⟨⟨by show inR 0; unfold inR; omega, h.kind, h.shift, h.ref, h.amt, by show inR 0; unfold inR; omega, h.few, h.L⟩, Nat.le_trans (ofL_few c) (by decide)⟩
set_option maxRecDepth 100000 in
set_option maxHeartbeats 16000000 in
theorem saleReads_walk (s : ByteArray) (hs : s.size ≤ 9223372036854775807) (v1 : Value) (a0 a1 : Int) (a00 : 0 ≤ a0) (a01 : a0 ≤ 65535) (a10 : 0 ≤ a1) (a11 : a1 ≤ 65535) (W0 : World) (hz : ActsT W0 v1) :
    Calls Try.prog 3 #[.string s, v1, .agg #[.int .u16 a0, .int .u16 a1]] W0 fun e w' => e = .returned (.bool true) ∧ Below W0.heap.size W0 w' := by
  obtain ⟨al, AL, acap, rfl, hcap, h63, hin, hok⟩ := hz
  generalize W0 = w at *
  obtain ⟨n, hn⟩ : ∃ n : Nat, min AL.length 8 = n := ⟨_, rfl⟩
  have hmF : (if (8 : Int) < (AL.length : Int) then (8 : Int) else (AL.length : Int)) = (n : Int) := by split <;> omega
  have hmI : min (AL.length : Int) 8 = (n : Int) := by omega
  have hn9 : n ≤ 8 := by omega
  have hnl : n ≤ AL.length := by omega
  have hcI : (n : Int) ≤ (acap : Int) := by omega
  have HIN := hide hin
  have HOK := hide hok
  clear hin hok hn
  obtain ⟨q, hq⟩ : ∃ q, w.heap.size = q := ⟨_, rfl⟩
  have HQ := hide hq
  clear hq
  -- the text that comes in, cut
  obtain ⟨m, hm⟩ : ∃ m : Nat, min s.size 200 = m := ⟨_, rfl⟩
  have hmsI : min (s.size : Int) 200 = (m : Int) := by omega
  have hmsF : (if (200 : Int) < (s.size : Int) then (200 : Int) else (s.size : Int)) = (m : Int) := by split <;> omega
  have hmle : (m : Int) ≤ (s.size : Int) := by omega
  obtain ⟨Rr, hRl, hRe⟩ : ∃ Rr : List UInt8, Rr.length ≤ 200 ∧ s.extract 0 m = bs Rr := by
    refine ⟨s.data.toList.take m, by rw [List.length_take]; omega, ?_⟩
    conv => lhs; rw [← bs_of s]
    exact bs_to _ _
  clear hm
  have XK1 := hide (heap_new w (.cells #[.int .u16 a0, .int .u16 a1] 24))
  have BK1 := hide ((Below.refl w.heap.size w).alloc (Nat.le_refl _) (.cells #[.int .u16 a0, .int .u16 a1] 24))
  go_enter Try.func3, Try.ntmps3
  go_upto_region 2 with (fail)
  (try rw [hRe])
  clear hRe hmsI hmsF hmle hs
  rw [HQ.out] at XK1 BK1 ⊢
  have HSZ1 := hide (show q ≤ (w.alloc (.cells #[.int .u16 a0, .int .u16 a1] 24)).heap.size from by rw [← HQ.out]; simp)
  generalize w.alloc (.cells #[.int .u16 a0, .int .u16 a1] 24) = w1 at *
  obtain ⟨kb, hkb⟩ : ∃ kb, q = kb := ⟨_, rfl⟩
  have HKB := hide hkb
  have XK1 := hide (show w1.heap[kb]? = some (.cells #[.int .u16 a0, .int .u16 a1] 24 (0, 0)) from by rw [← hkb]; exact XK1.out)
  rw [show (Value.pointer (some ⟨q, 0, none⟩)) = .pointer (some ⟨kb, 0, none⟩) from by rw [hkb]]
  clear hkb
  go_upto_region 3 with (refine rw_store rfl 27 (.tmp 7) (.tmp 39) rfl w1.heap.size rfl #[.int .i64 5, .int .i64 1, .slice none 0 0] rfl _ (heap_new w1 (.cells #[.int .i64 0, .int .i64 0, .slice none 0 0] 27)) (by kernel_rfl) rfl (by simp [Value.oneCell']) ?_)
  have XB := hide (heap_new w1 (.cells #[.int .i64 0, .int .i64 0, .slice none 0 0] 27))
  have hal := (Below.refl w1.heap.size w1).alloc (Nat.le_refl _) (.cells #[.int .i64 0, .int .i64 0, .slice none 0 0] 27)
  have hbb := setRow_below (hal.trans (Below.refl _ _)) (Nat.le_refl _) hal.size (#[.int .i64 5, .int .i64 1, .slice none 0 0] : Array Value)
  have D2 := hide (show MdS ((w1.alloc (.cells #[.int .i64 0, .int .i64 0, .slice none 0 0] 27)).setRow w1.heap.size (#[.int .i64 5, .int .i64 1, .slice none 0 0] : Array Value)) w1.heap.size 1 none 0 0 [] from ⟨setRow_same (cs := (#[.int .i64 5, .int .i64 1, .slice none 0 0] : Array Value)) XB.out, RegD.nil _, (fun y hy => by cases hy), rfl, by omega⟩)
  have K2 := hide ((hbb.block _ (heap_lt XK1.out)).trans XK1.out)
  have B2 := hide (BK1.out.trans (hbb.mono HSZ1.out))
  have HSZ2 := hide (Nat.le_trans HSZ1.out hbb.size)
  have HQM := hide HSZ1.out
  have HMK := hide (show w1.heap.size ≠ kb from fun e => by have := heap_lt XK1.out; omega)
  clear hal hbb XB XK1 BK1 HSZ1
  generalize (w1.alloc (.cells #[.int .i64 0, .int .i64 0, .slice none 0 0] 27)).setRow w1.heap.size (#[.int .i64 5, .int .i64 1, .slice none 0 0] : Array Value) = w2 at *
  obtain ⟨mb, hmb⟩ : ∃ k, w1.heap.size = k := ⟨_, rfl⟩
  rw [hmb] at D2 HQM HMK ⊢
  clear hmb
  go_wp2_with fail
  clear hmF hmI
  go_loopw [46] (fun i W => ∃ (j n2 : Nat) (nx : Int) (a : Option Addr) (cp : Nat) (T : List TxA), j ≤ n ∧ i = .int .i64 j ∧ n2 ≤ j ∧ MdS W mb nx a n2 cp T ∧ W.heap[kb]? = some (.cells #[.int .u16 a0, .int .u16 a1] 24 (0, 0)) ∧ Below q w W ∧ q ≤ W.heap.size) (fun i _ => n - (intOf i).toNat)
  case atStart => exact ⟨0, 0, 1, none, 0, [], by omega, rfl, Nat.le_refl _, D2.out, K2.out, B2.out, HSZ2.out⟩
  case round =>
    obtain ⟨j, n2, nx, a, cp, T, hj, rfl, hn2, hd, hk, hb, hsz⟩ := hrel
    have D1 := hide hd
    have K1 := hide hk
    have B1 := hide hb
    have HSZ1 := hide hsz
    have HNJ := hide hn2
    have HN9 := hide hn9
    clear hd hk hb hsz hn2 D2 K2 B2 HSZ2
    by_cases hlt : j < n
    · have HJN := hide hlt
      obtain ⟨b, off, rfl, hbl, c0, c1, c2, c3, c4⟩ := (HIN.out.below (show Below w.heap.size w wr by rw [HQ.out]; exact B1.out)) j (by omega)
      have HOX := hide (HOK.out (AL.getD j actT0) (by have : j < AL.length := by omega
                                                      simp [List.getD, this]))
      generalize AL.getD j actT0 = x at *
      obtain ⟨xk, xs, xr, xa, xc⟩ := x
      dsimp only at *
      go_upto_region 6 with (refine rw_store rfl 29 (.tmp 9) (.tmp 49) rfl wr.heap.size rfl #[.int .u8 xk, .int .i64 xs, .int .i64 xr, .int .i64 xa, .int .i64 xc] rfl _ (heap_new wr _) (by kernel_rfl) rfl (by simp [Value.oneCell']) ?_)
      have XB := hide (heap_new wr (.cells #[.int .u8 0, .int .i64 0, .int .i64 0, .int .i64 0, .int .i64 0] 29))
      have hal := (Below.refl wr.heap.size wr).alloc (Nat.le_refl _) (.cells #[.int .u8 0, .int .i64 0, .int .i64 0, .int .i64 0, .int .i64 0] 29)
      have hbb := setRow_below (hal.trans (Below.refl _ _)) (Nat.le_refl _) hal.size (#[.int .u8 xk, .int .i64 xs, .int .i64 xr, .int .i64 xa, .int .i64 xc] : Array Value)
      have X0 := hide (setRow_same (cs := (#[.int .u8 xk, .int .i64 xs, .int .i64 xr, .int .i64 xa, .int .i64 xc] : Array Value)) XB.out)
      have D2 := hide (D1.out.below hbb)
      have K2 := hide ((hbb.block _ (heap_lt K1.out)).trans K1.out)
      have B2 := hide (B1.out.trans (hbb.mono HSZ1.out))
      have HSZ2 := hide (Nat.le_trans HSZ1.out hbb.size)
      clear hal hbb XB D1 K1 B1 HSZ1 c0 c1 c2 c3 c4 hbl
      generalize (wr.alloc (.cells #[.int .u8 0, .int .i64 0, .int .i64 0, .int .i64 0, .int .i64 0] 29)).setRow wr.heap.size (#[.int .u8 xk, .int .i64 xs, .int .i64 xr, .int .i64 xa, .int .i64 xc] : Array Value) = w2 at *
      generalize wr.heap.size = ab at *
      obtain ⟨hk0, hs0, hr0, ha0, hc0⟩ := HOX.out
      dsimp only at hk0 hs0 hr0 ha0 hc0
      have HOF := hide (fun W => of_any xk xs xr xa xc W)
      have HWK := hide (ofL_wk hk0 hs0 hr0 ha0 hc0)
      unfold OfIs at HOF
      clear hk0 hs0 hr0 ha0 hc0
      go_wp2_with (refine rw_load rfl 29 (.tmp 9) rfl ab rfl 29 #[.int .u8 xk, .int .i64 xs, .int .i64 xr, .int .i64 xa, .int .i64 xc] (0, 0) _ X0.out Try.underlying29 rfl (by kernel_rfl) ?_)
      refine (HOF.out _).mono ?_
      rintro e w3 ⟨la, lc, lb, bc, rfl, hla, hlb, hb⟩
      have LB3 := hide hlb.lnTy
      have D3 := hide (D2.out.below hb)
      have K3 := hide ((hb.block _ (heap_lt K2.out)).trans K2.out)
      have B3 := hide (B2.out.trans (hb.mono HSZ2.out))
      have HSZ3 := hide (Nat.le_trans HSZ2.out hb.size)
      clear hb hla hlb D2 K2 B2 HSZ2 X0 HOF
      unfold txV txC ofTx
      dsimp only
      generalize ofL xc = LL at *
      have HA1 := hide (show ((w3.alloc (.cells #[.int .i64 0, .int .u8 0, .int .i64 0, .int .i64 0, .int .i64 0, .int .i64 0, .bool false, .slice none 0 0] 35)).alloc (.cells #[.int .i64 0, .int .u8 0, .int .i64 0, .int .i64 0, .int .i64 0, .int .i64 0, .bool false, .slice none 0 0] 38)).heap[w3.heap.size]? = some (.cells #[.int .i64 0, .int .u8 0, .int .i64 0, .int .i64 0, .int .i64 0, .int .i64 0, .bool false, .slice none 0 0] 35 (0, 0)) by rw [heap_old _ _ _ (by simp), heap_new])
      have HA2 := hide (show ((w3.alloc (.cells #[.int .i64 0, .int .u8 0, .int .i64 0, .int .i64 0, .int .i64 0, .int .i64 0, .bool false, .slice none 0 0] 35)).alloc (.cells #[.int .i64 0, .int .u8 0, .int .i64 0, .int .i64 0, .int .i64 0, .int .i64 0, .bool false, .slice none 0 0] 38)).heap[w3.heap.size + 1]? = some (.cells #[.int .i64 0, .int .u8 0, .int .i64 0, .int .i64 0, .int .i64 0, .int .i64 0, .bool false, .slice none 0 0] 38 (0, 0)) by exact heap_alloc2_new w3 _ _)
      have HA3 := hide ((setRow_diff (cs := (#[.int .i64 77, .int .u8 xk, .int .i64 xs, .int .i64 xr, .int .i64 xa, .int .i64 9, .bool true, .slice la LL.length lc] : Array Value)) (show w3.heap.size ≠ w3.heap.size + 1 by omega)).trans HA2.out)
      go_upto_region 7 with (first | (refine rw_store rfl 35 (.tmp 10) (.tmp 53) rfl w3.heap.size rfl #[.int .i64 77, .int .u8 xk, .int .i64 xs, .int .i64 xr, .int .i64 xa, .int .i64 9, .bool true, .slice la LL.length lc] rfl _ HA1.out (by kernel_rfl) rfl (by simp [Value.oneCell']) ?_) | (refine rw_store rfl 38 (.tmp 11) (.tmp 54) rfl (w3.heap.size + 1) rfl #[.int .i64 0, .int .u8 xk, .int .i64 xs, .int .i64 xr, .int .i64 xa, .int .i64 0, .bool false, .slice lb LL.length bc] rfl _ HA3.out (by kernel_rfl) rfl (by simp [Value.oneCell']) ?_))
      have hal := (((Below.refl w3.heap.size w3).alloc (Nat.le_refl _) (.cells #[.int .i64 0, .int .u8 0, .int .i64 0, .int .i64 0, .int .i64 0, .int .i64 0, .bool false, .slice none 0 0] 35)).alloc (by simp) (.cells #[.int .i64 0, .int .u8 0, .int .i64 0, .int .i64 0, .int .i64 0, .int .i64 0, .bool false, .slice none 0 0] 38))
      have hb1 := setRow_below hal (Nat.le_refl _) hal.size (#[.int .i64 77, .int .u8 xk, .int .i64 xs, .int .i64 xr, .int .i64 xa, .int .i64 9, .bool true, .slice la LL.length lc] : Array Value)
      have hbb := setRow_below hb1 (Nat.le_succ _) hb1.size (#[.int .i64 0, .int .u8 xk, .int .i64 xs, .int .i64 xr, .int .i64 xa, .int .i64 0, .bool false, .slice lb LL.length bc] : Array Value)
      have XD := hide (setRow_same (cs := (#[.int .i64 0, .int .u8 xk, .int .i64 xs, .int .i64 xr, .int .i64 xa, .int .i64 0, .bool false, .slice lb LL.length bc] : Array Value)) HA3.out)
      have D4 := hide (D3.out.below hbb)
      have LB4 := hide (LB3.out.below hbb)
      have K4 := hide ((hbb.block _ (heap_lt K3.out)).trans K3.out)
      have B4 := hide (B3.out.trans (hbb.mono HSZ3.out))
      have HSZ4 := hide (Nat.le_trans HSZ3.out hbb.size)
      clear hal hb1 hbb HA1 HA2 HA3 D3 LB3 K3 B3 HSZ3
      generalize (((w3.alloc (.cells #[.int .i64 0, .int .u8 0, .int .i64 0, .int .i64 0, .int .i64 0, .int .i64 0, .bool false, .slice none 0 0] 35)).alloc (.cells #[.int .i64 0, .int .u8 0, .int .i64 0, .int .i64 0, .int .i64 0, .int .i64 0, .bool false, .slice none 0 0] 38)).setRow w3.heap.size (#[.int .i64 77, .int .u8 xk, .int .i64 xs, .int .i64 xr, .int .i64 xa, .int .i64 9, .bool true, .slice la LL.length lc] : Array Value)).setRow (w3.heap.size + 1) (#[.int .i64 0, .int .u8 xk, .int .i64 xs, .int .i64 xr, .int .i64 xa, .int .i64 0, .bool false, .slice lb LL.length bc] : Array Value) = w4 at *
      obtain ⟨xb, hxb⟩ : ∃ k, w3.heap.size + 1 = k := ⟨_, rfl⟩
      rw [hxb] at XD ⊢
      clear hxb
      have HAD := hide (fun W (h9 : RegD W a cp T) (hl : LnTy 87 0 W lb LL) => radd_weak 5 nx D4.out.nx a cp T (by have := D4.out.len; have := HNJ.out; have := HN9.out; omega) ⟨⟨0, xk, xs, xr, xa, 0, false, LL⟩, lb, bc⟩ HWK.out W h9 D4.out.ok hl)
      unfold regV txV txC RAddIs at HAD
      dsimp only at HAD
      have HT4 := hide D4.out.len
      rw [HT4.out] at HAD
      go_wp2_with (first | (refine rw_load rfl 27 (.tmp 7) rfl mb rfl 27 #[.int .i64 5, .int .i64 nx, .slice a n2 cp] (0, 0) _ D4.out.head Try.underlying27 rfl (by kernel_rfl) ?_) | (refine rw_load rfl 38 (.tmp 11) rfl xb rfl 38 #[.int .i64 0, .int .u8 xk, .int .i64 xs, .int .i64 xr, .int .i64 xa, .int .i64 0, .bool false, .slice lb LL.length bc] (0, 0) _ XD.out Try.underlying38 rfl (by kernel_rfl) ?_))
      refine (HAD.out _ D4.out.reg LB4.out).mono ?_
      rintro e w6 ⟨nx', nr, er, a', cp', T', rfl, hr, hw, hl, hx1, hx2, hx3, hb⟩
      have HX := hide (show 1 ≤ nx' ∧ nx' ≤ 4294967296 from by have := D4.out.nx; omega)
      have R6 := hide hr
      have W6 := hide hw
      have HL6 := hide hl
      have M6 := hide ((hb.block _ (heap_lt D4.out.head)).trans D4.out.head)
      have K6 := hide ((hb.block _ (heap_lt K4.out)).trans K4.out)
      have B6 := hide (B4.out.trans (hb.mono HSZ4.out))
      have HSZ6 := hide (Nat.le_trans HSZ4.out hb.size)
      clear hb hr hw hl hx1 hx2 hx3 D4 K4 B4 HSZ4 LB4 XD HAD
      (try unfold regV)
      obtain ⟨n3, hn3⟩ : ∃ n3, T'.length = n3 := ⟨_, rfl⟩
      rw [hn3]
      have HN3 := hide hn3
      clear hn3
      go_wp2_with (refine rw_store rfl 27 (.tmp 7) (.tmp 59) rfl mb rfl #[.int .i64 5, .int .i64 nx', .slice a' n3 cp'] rfl _ M6.out (by kernel_rfl) rfl (by simp [Value.oneCell']) ?_)
      have hts := setRow_same (cs := (#[.int .i64 5, .int .i64 nx', .slice a' n3 cp'] : Array Value)) M6.out
      have hto := setRow_only w6 mb (#[.int .i64 5, .int .i64 nx', .slice a' n3 cp'] : Array Value)
      have hkt := setRow_keeps (Ts := [27]) M6.out (by decide) (#[.int .i64 5, .int .i64 nx', .slice a' n3 cp'] : Array Value)
      have D7 := hide (show MdS (w6.setRow mb (#[.int .i64 5, .int .i64 nx', .slice a' n3 cp'] : Array Value)) mb nx' a' n3 cp' T' from ⟨hts, R6.out.keepsT hkt (by decide) (by decide), W6.out, HN3.out, HX.out⟩)
      have K7 := hide ((hto.block _ (heap_lt K6.out) HMK.out.symm).trans K6.out)
      have B7 := hide (hto.below B6.out HQM.out HSZ6.out)
      have HSZ7 := hide (Nat.le_trans HSZ6.out hto.size)
      clear hts hto hkt M6 K6 B6 HSZ6 R6
      go_roundw
      case rel => exact ⟨j + 1, n3, nx', a', cp', T', by have := HJN.out; omega, by go_num, by have h1 := HN3.out; have h2 := HL6.out; have h3 := HT4.out; have h4 := HNJ.out; omega, D7.out, K7.out, B7.out, HSZ7.out⟩
      case measure => have := HJN.out; simp [intOf]; omega
    · obtain rfl : j = n := by omega
      clear hlt HIN HOK
      have HTX := hide (fun W (h9 : RegD W a cp T) => rtext_weak 5 nx D1.out.nx a cp T (by have := D1.out.len; have := HNJ.out; have := HN9.out; omega) W h9 D1.out.ok)
      unfold regV RTextIs at HTX
      have HT4 := hide D1.out.len
      rw [HT4.out] at HTX
      go_wp2_with (refine rw_load rfl 27 (.tmp 7) rfl mb rfl 27 #[.int .i64 5, .int .i64 nx, .slice a n2 cp] (0, 0) _ D1.out.head Try.underlying27 rfl (by kernel_rfl) ?_)
      refine (HTX.out _ D1.out.reg).mono ?_
      rintro e w4 ⟨sL, rfl, hl1, hl2, hb⟩
      have K4 := hide ((hb.block _ (heap_lt K1.out)).trans K1.out)
      have B4 := hide (B1.out.trans (hb.mono HSZ1.out))
      have HSZ4 := hide (Nat.le_trans HSZ1.out hb.size)
      have hl2 : sL.length ≤ 200000 := by have := HNJ.out; have := HN9.out; omega
      clear hb HTX D1 K1 B1 HSZ1 HQM HMK HT4 HNJ
      obtain ⟨n1, hn1⟩ : ∃ n1 : Nat, sL.length = n1 := ⟨_, rfl⟩
      have HN1 := hide (show 1 ≤ n1 ∧ n1 ≤ 200000 from by omega)
      obtain ⟨zz, w5, hcv, hb5, hs5, hrow⟩ := conv_text w4 (bs sL)
      have hsz3 : (bs sL).size = n1 := by rw [bs_size, hn1]
      rw [hsz3] at hcv hrow
      rw [show (bs sL).data.toList = sL from rfl] at hrow
      have B5 := hide (B4.out.trans (hb5.mono HSZ4.out))
      have K5 := hide ((hb5.block _ (heap_lt K4.out)).trans K4.out)
      have HSZ5 := hide (Nat.le_trans HSZ4.out hb5.size)
      have HRW := hide hrow
      have hkbl := heap_lt K4.out
      obtain ⟨i, hin1, hit⟩ := turn_place a0 a00 n1 HN1.out.1
      have HEX := hide (bs_to sL i)
      obtain ⟨x', hx'⟩ := xor_byte (sL.getD i 0) (a1 % 256) (Int.emod_nonneg _ (by omega)) (by have := Int.emod_lt_of_pos a1 (show (0 : Int) < 256 by omega); omega)
      have x0 : w5.cell? ⟨kb, 0, none⟩ = some (.int .u16 a0) := cell_of_block K5.out 0
      have x1 : w5.cell? ⟨kb, 1, none⟩ = some (.int .u16 a1) := cell_of_block K5.out 1
      have y0 : w5.cell? ⟨w4.heap.size, i, none⟩ = some (.int .u8 ((sL.getD i 0).toNat : Int)) := by rw [cell_of_block HRW.out, rowC_at _ zz i (by omega)]
      have hfr : w5.frozen? ⟨w4.heap.size, i, none⟩ = false := by simp only [World.frozen?, HRW.out]; simp; omega
      have hiI : (i : Int) < (n1 : Int) := by omega
      have hn0 : ¬ (n1 : Int) = 0 := by omega
      have HTL := hide (show (sL.set i x').length = n1 by rw [List.length_set]; exact hn1)
      have HR6 := hide (show (w5.setCell ⟨w4.heap.size, i, none⟩ (.int .u8 (x'.toNat : Int))).heap[w4.heap.size]? = some (.cells (rowC (sL.set i x') zz) 5 (n1 + zz, n1 + zz + 1)) from by
        rw [← rowC_set sL zz i (by omega) x']
        exact block_setCell HRW.out _ _)
      have HA6 := hide (show (w5.setCell ⟨w4.heap.size, i, none⟩ (.int .u8 (x'.toNat : Int))).heap[kb]? = some (.cells #[.int .u16 a0, .int .u16 a1] 24 (0, 0)) from by
        rw [block_setCell_other (by omega)]; exact K5.out)
      have HB6 := hide (B5.out.setCell (p := ⟨w4.heap.size, i, none⟩) (show q ≤ w4.heap.size from HSZ4.out) (.int .u8 (x'.toNat : Int)))
      have HSZ6 := hide (show q ≤ (w5.setCell ⟨w4.heap.size, i, none⟩ (.int .u8 (x'.toNat : Int))).heap.size from by simpa using HSZ5.out)
      have hwa : IntKind.i64.wrap a0 = a0 := by rw [IntKind.wrap_i64]; omega
      clear hrow hb5 hs5 HRW K4 B4 HSZ4 hsz3
      generalize (sL.getD i 0).toNat = xv at *
      generalize sL.set i x' = T' at *
      have hss : ((bs sL).size : Int) = (n1 : Int) := by rw [bs_size, hn1]
      go_upto_region 11 with (fail)
      go_region
      have HR7 := hide (show (w5.setCell ⟨w4.heap.size, i, none⟩ (.int .u8 (x'.toNat : Int))).drew.heap[w4.heap.size]? = _ from HR6.out)
      have HA7 := hide (show (w5.setCell ⟨w4.heap.size, i, none⟩ (.int .u8 (x'.toNat : Int))).drew.heap[kb]? = _ from HA6.out)
      have HB7 := hide HB6.out.drew
      have HSZ7 := hide (show q ≤ (w5.setCell ⟨w4.heap.size, i, none⟩ (.int .u8 (x'.toNat : Int))).drew.heap.size from HSZ6.out)
      clear HR6 HA6 HB6 HSZ6 K5 B5 HSZ5 x0 x1 y0 hfr hcv hx' hkbl
      generalize (w5.setCell ⟨w4.heap.size, i, none⟩ (.int .u8 (x'.toNat : Int))).drew = w9 at *
      generalize w4.heap.size = rb at *
      have H0 := hide (show ∃ p : List UInt8, bs Rr = bs p ∧ p.length ≤ 400000 from ⟨Rr, rfl, by omega⟩)
      have H1 := hide (show ∃ p : List UInt8, bs (sL ++ Rr) = bs p ∧ p.length ≤ 400000 from ⟨_, rfl, by rw [List.length_append]; omega⟩)
      have H2 := hide (show ∃ p : List UInt8, bs T' = bs p ∧ p.length ≤ 400000 from ⟨_, rfl, by rw [HTL.out]; omega⟩)
      have H3 := hide (show ∃ p : List UInt8, bs (sL.take i) = bs p ∧ p.length ≤ 400000 from ⟨_, rfl, by rw [List.length_take]; omega⟩)
      have hszr : ¬ 9223372036854775807 < (bs sL).size + (bs Rr).size := by rw [bs_size, bs_size]; omega
      have hcatr : bs sL ++ bs Rr = bs (sL ++ Rr) := bs_append _ _
      have hex := HEX.out
      have HSPF := hide (fun (W : World) (h1 : W.heap[kb]? = some (.cells #[.int .u16 a0, .int .u16 a1] 24 (0, 0))) (h2 : W.heap[rb]? = some (.cells (rowC T' zz) 5 (n1 + zz, n1 + zz + 1))) => SP3.of h1 h2 HTL.out)
      clear hn1 hl1 hl2 hRl HTL HEX
      generalize bs (sL.take i) = b3 at *
      generalize bs T' = b2 at *
      generalize bs (sL ++ Rr) = b1 at *
      generalize bs sL = b9 at *
      generalize bs Rr = b0 at *
      have HHH := hide (And.intro hss (And.intro hszr (And.intro hcatr (And.intro hex (And.intro hit (And.intro hwa (And.intro hiI (And.intro hn0 (And.intro (show ¬ n1 = 0 from by omega) (show i ≤ n1 from by omega))))))))))
      clear hss hszr hcatr hex hit hwa hiI hn0 hin1
      obtain ⟨oy, hoy⟩ : ∃ o, o = Obj.cells #[.int .i64 5, .int .i64 3, .int .i64 0] 3 := ⟨_, rfl⟩
      have hal := (Below.refl w9.heap.size w9).alloc (Nat.le_refl _) oy
      have L8 := hide (show (w9.alloc oy).heap[w9.heap.size]? = some (.cells #[.int .i64 5, .int .i64 3, .int .i64 0] 3 (0, 0)) by rw [heap_new, hoy])
      have R8 := hide ((hal.block _ (heap_lt HR7.out)).trans HR7.out)
      have K8 := hide ((hal.block _ (heap_lt HA7.out)).trans HA7.out)
      have B8 := hide (HB7.out.trans (hal.mono HSZ7.out))
      have HSZ8 := hide (Nat.le_trans HSZ7.out hal.size)
      clear hal HR7 HA7 HB7 HSZ7
      go_wp2_with fail
      rw [← hoy]
      clear hoy
      generalize w9.alloc oy = w8 at *
      generalize w9.heap.size = kl at *
      clear oy
      go_loopw [83] (fun i W => ∃ k : Nat, k ≤ 3 ∧ i = .int .i64 k ∧ W.heap[kl]? = some (.cells #[.int .i64 5, .int .i64 3, .int .i64 0] 3 (0, 0)) ∧ W.heap[rb]? = some (.cells (rowC T' zz) 5 (n1 + zz, n1 + zz + 1)) ∧ W.heap[kb]? = some (.cells #[.int .u16 a0, .int .u16 a1] 24 (0, 0)) ∧ Below q w W ∧ q ≤ W.heap.size) (fun i _ => 3 - (intOf i).toNat)
      case atStart => exact ⟨0, by omega, rfl, L8.out, R8.out, K8.out, B8.out, HSZ8.out⟩
      case round =>
        obtain ⟨k, hk, rfl, hl, hr, hk9, hb, hsz⟩ := hrel
        have L1 := hide hl
        have R1 := hide hr
        have K1 := hide hk9
        have B1 := hide hb
        have HSZ1 := hide hsz
        clear hl hr hk9 hb hsz L8 R8 K8 B8 HSZ8
        by_cases hlt : k < 3
        · have HLT := hide hlt
          obtain ⟨kp, hkp, hcell⟩ := three_keeps L1.out k hlt
          have HKP := hide hkp
          clear hkp
          go_upto_region 15 with (fail)
          clear hcell hlt
          obtain ⟨hss, hszr, hcatr, hex, hit, hwa, hiI, hn0, hn0n, hin0⟩ := HHH.out
          have HAv0 := hide (show wr.drew.heap[kb]? = _ from K1.out)
          have HRv0 := hide (show wr.drew.heap[rb]? = _ from R1.out)
          have HKv0 := hide (show wr.drew.heap[kl]? = _ from L1.out)
          have HSPv0 := hide (HSPF.out _ HAv0.out HRv0.out)
          have HBv0 := hide B1.out.drew
          have HSZv0 := hide (show q ≤ wr.drew.heap.size from HSZ1.out)
          clear K1 R1 L1 B1 HSZ1
          refine wp_region_held_drew (S := (SP3 kb rb n1 zz a0 b2)) (by kernel_rfl) (HSPv0.out) (fun hHeld => ?_)
          generalize wr.drew = v0 at *
          refine wpAnyH_take (i := 0) (oi := { dst := some 87, op := Op.move (Operand.tmp 0), type := 9, pos := "law.go:113", after := #[], guard := none }) (v := ?_) rfl (by kernel_rfl) (by kernel_rfl) (by kernel_rfl) (fun _ _ _ h => h) (Or.inl ⟨by kernel_rfl, ?_⟩) hHeld ?_
          rotate_left
          · (intro w hSw; (try dsimp only at hSw); (try unfold SP3 at hSw); go_simp); try with_reducible rfl
          try simp only [Act.put, List.setIfInBounds_toArray, List.set_cons_zero, List.set_cons_succ]
          refine wpAnyH_take (i := 1) (oi := { dst := some 88, op := Op.move (Operand.tmp 12), type := 9, pos := "law.go:113", after := #[], guard := none }) (v := ?_) rfl (by kernel_rfl) (by kernel_rfl) (by kernel_rfl) (fun _ _ _ h => h) (Or.inl ⟨by kernel_rfl, ?_⟩) hHeld ?_
          rotate_left
          · (intro w hSw; (try dsimp only at hSw); (try unfold SP3 at hSw); go_simp); try with_reducible rfl
          try simp only [Act.put, List.setIfInBounds_toArray, List.set_cons_zero, List.set_cons_succ]
          refine wpAnyH_take (i := 2) (oi := { dst := some 89, op := Op.move (Operand.tmp 0), type := 9, pos := "law.go:113", after := #[], guard := none }) (v := ?_) rfl (by kernel_rfl) (by kernel_rfl) (by kernel_rfl) (fun _ _ _ h => h) (Or.inl ⟨by kernel_rfl, ?_⟩) hHeld ?_
          rotate_left
          · (intro w hSw; (try dsimp only at hSw); (try unfold SP3 at hSw); go_simp); try with_reducible rfl
          try simp only [Act.put, List.setIfInBounds_toArray, List.set_cons_zero, List.set_cons_succ]
          refine wpAnyH_take (i := 3) (oi := { dst := some 90, op := Op.binOp BinOp.add 9 (Operand.tmp 88) (Operand.tmp 89) 9, type := 9, pos := "law.go:113", after := #[{ on := 1, ground := Ground.data }, { on := 2, ground := Ground.data }], guard := none }) (v := ?_) rfl (by kernel_rfl) (by kernel_rfl) (by kernel_rfl) (fun _ _ _ h => h) (Or.inl ⟨by kernel_rfl, ?_⟩) hHeld ?_
          rotate_left
          · (intro w hSw; (try dsimp only at hSw); (try unfold SP3 at hSw); go_simp); try with_reducible rfl
          try simp only [Act.put, List.setIfInBounds_toArray, List.set_cons_zero, List.set_cons_succ]
          refine wpAnyH_take (i := 4) (oi := { dst := some 91, op := Op.move (Operand.tmp 13), type := 44, pos := "law.go:113", after := #[], guard := none }) (v := ?_) rfl (by kernel_rfl) (by kernel_rfl) (by kernel_rfl) (fun _ _ _ h => h) (Or.inl ⟨by kernel_rfl, ?_⟩) hHeld ?_
          rotate_left
          · (intro w hSw; (try dsimp only at hSw); (try unfold SP3 at hSw); go_simp); try with_reducible rfl
          try simp only [Act.put, List.setIfInBounds_toArray, List.set_cons_zero, List.set_cons_succ]
          refine wpAnyH_take (i := 5) (oi := { dst := some 92, op := Op.convert 44 9 (Operand.tmp 91), type := 9, pos := "law.go:113", after := #[{ on := 4, ground := Ground.data }], guard := none }) (v := ?_) rfl (by kernel_rfl) (by kernel_rfl) (by kernel_rfl) (fun _ _ _ h => h) (Or.inl ⟨by kernel_rfl, ?_⟩) hHeld ?_
          rotate_left
          · (intro w hSw; (try dsimp only at hSw); (try unfold SP3 at hSw); go_simp); try with_reducible rfl
          try simp only [Act.put, List.setIfInBounds_toArray, List.set_cons_zero, List.set_cons_succ]
          refine wpAnyH_take (i := 6) (oi := { dst := some 93, op := Op.move (Operand.tmp 12), type := 9, pos := "law.go:113", after := #[], guard := none }) (v := ?_) rfl (by kernel_rfl) (by kernel_rfl) (by kernel_rfl) (fun _ _ _ h => h) (Or.inl ⟨by kernel_rfl, ?_⟩) hHeld ?_
          rotate_left
          · (intro w hSw; (try dsimp only at hSw); (try unfold SP3 at hSw); go_simp); try with_reducible rfl
          try simp only [Act.put, List.setIfInBounds_toArray, List.set_cons_zero, List.set_cons_succ]
          refine wpAnyH_take (i := 7) (oi := { dst := some 94, op := Op.indexAddr 24 (Operand.tmp 5) (Operand.const (Value.int IntKind.i64 0)), type := 0, pos := "law.go:113", after := #[], guard := none }) (v := ?_) rfl (by kernel_rfl) (by kernel_rfl) (by kernel_rfl) (fun _ _ _ h => h) (Or.inl ⟨by kernel_rfl, ?_⟩) hHeld ?_
          rotate_left
          · (intro w hSw; (try dsimp only at hSw); (try unfold SP3 at hSw); go_simp); try with_reducible rfl
          try simp only [Act.put, List.setIfInBounds_toArray, List.set_cons_zero, List.set_cons_succ]
          refine wpAnyH_take (i := 8) (oi := { dst := some 95, op := Op.load 23 (Operand.tmp 94), type := 23, pos := "law.go:113", after := #[{ on := 7, ground := Ground.data }], guard := none }) (v := ?_) rfl (by kernel_rfl) (by kernel_rfl) (by kernel_rfl) (fun _ _ _ h => h) (Or.inl ⟨by kernel_rfl, ?_⟩) hHeld ?_
          rotate_left
          · (intro w hSw; (try dsimp only at hSw); (try unfold SP3 at hSw); go_simp); try with_reducible rfl
          try simp only [Act.put, List.setIfInBounds_toArray, List.set_cons_zero, List.set_cons_succ]
          refine wpAnyH_take (i := 9) (oi := { dst := some 96, op := Op.convert 23 3 (Operand.tmp 95), type := 3, pos := "law.go:113", after := #[{ on := 8, ground := Ground.data }], guard := none }) (v := ?_) rfl (by kernel_rfl) (by kernel_rfl) (by kernel_rfl) (fun _ _ _ h => h) (Or.inl ⟨by kernel_rfl, ?_⟩) hHeld ?_
          rotate_left
          · (intro w hSw; (try dsimp only at hSw); (try unfold SP3 at hSw); go_simp); try with_reducible rfl
          try simp only [Act.put, List.setIfInBounds_toArray, List.set_cons_zero, List.set_cons_succ]
          refine wpAnyH_take (i := 10) (oi := { dst := some 97, op := Op.move (Operand.tmp 12), type := 9, pos := "law.go:113", after := #[], guard := none }) (v := ?_) rfl (by kernel_rfl) (by kernel_rfl) (by kernel_rfl) (fun _ _ _ h => h) (Or.inl ⟨by kernel_rfl, ?_⟩) hHeld ?_
          rotate_left
          · (intro w hSw; (try dsimp only at hSw); (try unfold SP3 at hSw); go_simp); try with_reducible rfl
          try simp only [Act.put, List.setIfInBounds_toArray, List.set_cons_zero, List.set_cons_succ]
          refine wpAnyH_take (i := 11) (oi := { dst := some 98, op := Op.call { callee := Callee.builtin Builtin.len, args := #[Operand.tmp 97], argTypes := #[9] }, type := 3, pos := "law.go:113", after := #[{ on := 10, ground := Ground.data }], guard := none }) (v := ?_) rfl (by kernel_rfl) (by kernel_rfl) (by kernel_rfl) (fun _ _ _ h => h) (Or.inl ⟨by kernel_rfl, ?_⟩) hHeld ?_
          rotate_left
          · (intro w hSw; (try dsimp only at hSw); (try unfold SP3 at hSw); go_simp); try with_reducible rfl
          try simp only [Act.put, List.setIfInBounds_toArray, List.set_cons_zero, List.set_cons_succ]
          refine wpAnyH_take (i := 12) (oi := { dst := some 99, op := Op.binOp BinOp.rem 3 (Operand.tmp 96) (Operand.tmp 98) 3, type := 3, pos := "law.go:113", after := #[{ on := 9, ground := Ground.data }, { on := 11, ground := Ground.data }], guard := none }) (v := ?_) rfl (by kernel_rfl) (by kernel_rfl) (by kernel_rfl) (fun _ _ _ h => h) (Or.inl ⟨by kernel_rfl, ?_⟩) hHeld ?_
          rotate_left
          · (intro w hSw; (try dsimp only at hSw); (try unfold SP3 at hSw); go_simp); try with_reducible rfl
          try simp only [Act.put, List.setIfInBounds_toArray, List.set_cons_zero, List.set_cons_succ]
          refine wpAnyH_take (i := 13) (oi := { dst := some 100, op := Op.slice 9 (Operand.tmp 93) none (some (Operand.tmp 99)) none, type := 9, pos := "law.go:113", after := #[{ on := 6, ground := Ground.data }, { on := 12, ground := Ground.data }], guard := none }) (v := ?_) rfl (by kernel_rfl) (by kernel_rfl) (by kernel_rfl) (fun _ _ _ h => h) (Or.inl ⟨by kernel_rfl, ?_⟩) hHeld ?_
          rotate_left
          · (intro w hSw; (try dsimp only at hSw); (try unfold SP3 at hSw); go_simp); try with_reducible rfl
          try simp only [Act.put, List.setIfInBounds_toArray, List.set_cons_zero, List.set_cons_succ]
          refine wpAnyH_take (i := 16) (oi := { dst := some 103, op := Op.move (Operand.const (Value.int IntKind.i64 0)), type := 3, pos := "law.go:113", after := #[], guard := none }) (v := ?_) rfl (by kernel_rfl) (by kernel_rfl) (by kernel_rfl) (fun _ _ _ h => h) (Or.inl ⟨by kernel_rfl, ?_⟩) hHeld ?_
          rotate_left
          · (intro w hSw; (try dsimp only at hSw); (try unfold SP3 at hSw); go_simp); try with_reducible rfl
          try simp only [Act.put, List.setIfInBounds_toArray, List.set_cons_zero, List.set_cons_succ]
          refine wpAnyH_ready (rs := [14]) (by kernel_rfl) (by simp) (AllReadyH.cons (o := { dst := some 101, op := Op.buildSlice 46 4 #[(0, Operand.tmp 87), (1, Operand.tmp 90), (2, Operand.tmp 92), (3, Operand.tmp 100)], type := 46, pos := "law.go:113", after := #[{ on := 0, ground := Ground.data }, { on := 3, ground := Ground.data }, { on := 5, ground := Ground.data }, { on := 13, ground := Ground.data }], guard := none }) rfl (fun K hK => ?_) AllReadyH.nil)
          have hOld := hide hHeld
          clear hHeld
          go_simp
          have HBv2 := hide (HBv0.out.alloc HSZv0.out (.cells #[.string b0, .string b1, .string b2, .string b3] 9))
          have HSZv2 := hide (Nat.le_trans HSZv0.out (show v0.heap.size ≤ (v0.alloc (.cells #[.string b0, .string b1, .string b2, .string b3] 9)).heap.size by simp))
          have HSv2 := hide (heap_new v0 (.cells #[.string b0, .string b1, .string b2, .string b3] 9))
          have HAv2 := hide ((heap_old v0 (.cells #[.string b0, .string b1, .string b2, .string b3] 9) _ (heap_lt HAv0.out)).trans HAv0.out)
          have HRv2 := hide ((heap_old v0 (.cells #[.string b0, .string b1, .string b2, .string b3] 9) _ (heap_lt HRv0.out)).trans HRv0.out)
          have HKv2 := hide ((heap_old v0 (.cells #[.string b0, .string b1, .string b2, .string b3] 9) _ (heap_lt HKv0.out)).trans HKv0.out)
          have HSPv2 := hide (HSPF.out _ HAv2.out HRv2.out)
          generalize hq2 : World.alloc v0 (.cells #[.string b0, .string b1, .string b2, .string b3] 9) = v2 at *
          generalize hb2 : v0.heap.size = ob at *
          clear hq2 hb2
          (try go_wp2_with fail)
          refine hK.out _ _ (HSPv2.out) (fun hHeld => ?_)
          clear hK K hOld
          try simp only [Act.put, List.setIfInBounds_toArray, List.set_cons_zero, List.set_cons_succ]
          refine wpAnyH_take (i := 15) (oi := { dst := some 102, op := Op.call { callee := Callee.builtin Builtin.len, args := #[Operand.tmp 101], argTypes := #[46] }, type := 3, pos := "law.go:113", after := #[{ on := 14, ground := Ground.data }], guard := none }) (v := ?_) rfl (by kernel_rfl) (by kernel_rfl) (by kernel_rfl) (fun _ _ _ h => h) (Or.inl ⟨by kernel_rfl, ?_⟩) hHeld ?_
          rotate_left
          · (intro w hSw; (try dsimp only at hSw); (try unfold SP3 at hSw); go_simp); try with_reducible rfl
          try simp only [Act.put, List.setIfInBounds_toArray, List.set_cons_zero, List.set_cons_succ]
          refine wpAnyH_done (by kernel_rfl) ?_ _
          clear hHeld HSPv0 HAv0 HRv0 HKv0 HBv0 HSZv0 hss hszr hcatr hex hit hwa hiI hn0 hn0n hin0
          go_wp2_with fail
          go_loopw [103] (fun i W => ∃ j : Nat, j ≤ 4 ∧ i = .int .i64 j ∧ W.heap[ob]? = some (.cells #[.string b0, .string b1, .string b2, .string b3] 9 (0, 0)) ∧ W.heap[kl]? = some (.cells #[.int .i64 5, .int .i64 3, .int .i64 0] 3 (0, 0)) ∧ W.heap[rb]? = some (.cells (rowC T' zz) 5 (n1 + zz, n1 + zz + 1)) ∧ W.heap[kb]? = some (.cells #[.int .u16 a0, .int .u16 a1] 24 (0, 0)) ∧ Below q w W ∧ q ≤ W.heap.size) (fun i _ => 4 - (intOf i).toNat)
          case atStart => exact ⟨0, by omega, rfl, HSv2.out, HKv2.out, HRv2.out, HAv2.out, HBv2.out, HSZv2.out⟩
          case round =>
            clear HSv2 HKv2 HRv2 HAv2 HBv2 HSZv2 HSPv2
            obtain ⟨j, hj, rfl, ho, hl, hr, hk9, hb, hsz⟩ := hrel
            have O1 := hide ho
            have G1 := hide (show _ ∧ _ ∧ _ from ⟨hl, hr, hk9⟩)
            have B1 := hide hb
            have HSZ1 := hide hsz
            clear ho hl hr hk9 hb hsz
            by_cases hlt : j < 4
            · have HJL := hide hlt
              obtain ⟨p, hpl, hcell⟩ := four_strings O1.out H0.out H1.out H2.out H3.out j hlt
              have hjI : (j : Int) < 4 := by omega
              have HNEW := hide (fun W => rq_new p (by omega) W)
              have HRD := hide (fun (h : 1 ≤ kp ∧ kp ≤ 512) W => rrread_any kp h p (by omega) W)
              have HRN := hide (fun (h : ¬ (1 ≤ kp ∧ kp ≤ 512)) W => rrread_arg kp h (bs p) W)
              have HPS := hide (show ((bs p).size : Int) = (p.length : Int) ∧ p.length ≤ 1000000 from ⟨by rw [bs_size], by omega⟩)
              obtain ⟨t, ht⟩ : ∃ t, bs p = t := ⟨_, rfl⟩
              rw [ht] at HNEW HRD HRN HPS hcell
              clear ht hpl
              go_wp2_with fail
              refine (HNEW.out _).mono ?_
              rintro e w4 ⟨rfl, hq, hb⟩
              have Q4 := hide hq
              have O4 := hide ((hb.block _ (heap_lt O1.out)).trans O1.out)
              have G4 := hide (show _ ∧ _ ∧ _ from ⟨(hb.block _ (heap_lt G1.out.1)).trans G1.out.1, (hb.block _ (heap_lt G1.out.2.1)).trans G1.out.2.1, (hb.block _ (heap_lt G1.out.2.2)).trans G1.out.2.2⟩)
              have B4 := hide (B1.out.trans (hb.mono HSZ1.out))
              have HSZ4 := hide (Nat.le_trans HSZ1.out hb.size)
              have HRB := hide (show q ≤ wr.heap.size ∧ ob ≠ wr.heap.size ∧ kl ≠ wr.heap.size ∧ rb ≠ wr.heap.size ∧ kb ≠ wr.heap.size from by have h1 := HSZ1.out; have h2 := heap_lt O1.out; have h3 := heap_lt G1.out.1; have h4 := heap_lt G1.out.2.1; have h5 := heap_lt G1.out.2.2; omega)
              clear hq hb O1 G1 B1 HSZ1 hcell
              generalize wr.heap.size = r at *
              rcases HKP.out with hkp | rfl
              · have HSR := hide (fun W h => slread_any kp hkp r p W h)
                have HRD := hide (fun W => HRD.out hkp W)
                unfold SlRdIs at HSR
                unfold RRdIs at HRD
                clear hkp HRN
                go_wp2_with fail
                refine (HSR.out _ Q4.out).mono ?_
                intro e w5 hcs
                rcases hcs with ⟨hno, rfl, ho⟩ | ⟨M', rest, p', V, hso, rfl, hci, hrq, ho⟩
                · have HNO := hide hno
                  have O5 := hide ((ho.block _ (heap_lt O4.out) HRB.out.2.1).trans O4.out)
                  have G5 := hide (show _ ∧ _ ∧ _ from ⟨(ho.block _ (heap_lt G4.out.1) HRB.out.2.2.1).trans G4.out.1, (ho.block _ (heap_lt G4.out.2.1) HRB.out.2.2.2.1).trans G4.out.2.1, (ho.block _ (heap_lt G4.out.2.2) HRB.out.2.2.2.2).trans G4.out.2.2⟩)
                  have B5 := hide (ho.below B4.out HRB.out.1 HSZ4.out)
                  have HSZ5 := hide (Nat.le_trans HSZ4.out ho.size)
                  clear ho hno O4 G4 B4 HSZ4 Q4 HSR HNEW
                  as_aux_lemma =>
                    go_wp2_with fail
                    refine (HRD.out _).mono ?_
                    rintro e w6 ⟨hcs, hb⟩
                    have O6 := hide ((hb.block _ (heap_lt O5.out)).trans O5.out)
                    have G6 := hide (show _ ∧ _ ∧ _ from ⟨(hb.block _ (heap_lt G5.out.1)).trans G5.out.1, (hb.block _ (heap_lt G5.out.2.1)).trans G5.out.2.1, (hb.block _ (heap_lt G5.out.2.2)).trans G5.out.2.2⟩)
                    have B6 := hide (B5.out.trans (hb.mono HSZ5.out))
                    have HSZ6 := hide (Nat.le_trans HSZ5.out hb.size)
                    clear O5 G5 B5 HSZ5
                    clear hb HRD
                    rcases hcs with ⟨-, rfl⟩ | ⟨M2, r2, a2, c2, hso2, -⟩
                    · rw [show regV 0 0 none 0 0 = .agg #[.int .i64 0, .int .i64 0, .slice none 0 0] from rfl]
                      go_upto_region 21 with (refine rw_store rfl 27 (.tmp 21) (.tmp 119) rfl w6.heap.size rfl #[.int .i64 0, .int .i64 0, .slice none 0 0] rfl _ (heap_new w6 _) (by kernel_rfl) rfl (by simp [Value.oneCell']) ?_)
                      have hal := (Below.refl w6.heap.size w6).alloc (Nat.le_refl _) (.cells #[.int .i64 0, .int .i64 0, .slice none 0 0] 27)
                      have XW7 := hide (setRow_same (cs := #[.int .i64 0, .int .i64 0, .slice none 0 0]) (heap_new w6 (.cells #[.int .i64 0, .int .i64 0, .slice none 0 0] 27)))
                      have hb := setRow_below (hal.trans (Below.refl _ _)) (Nat.le_refl _) hal.size (#[.int .i64 0, .int .i64 0, .slice none 0 0] : Array Value)
                      have O7 := hide ((hb.block _ (heap_lt O6.out)).trans O6.out)
                      have G7 := hide (show _ ∧ _ ∧ _ from ⟨(hb.block _ (heap_lt G6.out.1)).trans G6.out.1, (hb.block _ (heap_lt G6.out.2.1)).trans G6.out.2.1, (hb.block _ (heap_lt G6.out.2.2)).trans G6.out.2.2⟩)
                      have B7 := hide (B6.out.trans (hb.mono HSZ6.out))
                      have HSZ7 := hide (Nat.le_trans HSZ6.out hb.size)
                      clear O6 G6 B6 HSZ6
                      clear hal hb
                      generalize (w6.alloc (.cells #[.int .i64 0, .int .i64 0, .slice none 0 0] 27)).setRow w6.heap.size #[.int .i64 0, .int .i64 0, .slice none 0 0] = w7 at *
                      generalize w6.heap.size = xb at *
                      go_wp2_with fail
                      go_roundw
                      case rel => exact ⟨j + 1, HJL.out, by go_num, O7.out, G7.out.1, G7.out.2.1, G7.out.2.2, B7.out, HSZ7.out⟩
                      case measure => have := HJL.out; simp [intOf]; omega
                    · rw [HNO.out] at hso2; cases hso2
                · have HSO := hide hso
                  have CI := hide hci
                  have RQ5 := hide hrq
                  have O5 := hide ((ho.block _ (heap_lt O4.out) HRB.out.2.1).trans O4.out)
                  have G5 := hide (show _ ∧ _ ∧ _ from ⟨(ho.block _ (heap_lt G4.out.1) HRB.out.2.2.1).trans G4.out.1, (ho.block _ (heap_lt G4.out.2.1) HRB.out.2.2.2.1).trans G4.out.2.1, (ho.block _ (heap_lt G4.out.2.2) HRB.out.2.2.2.2).trans G4.out.2.2⟩)
                  have B5 := hide (ho.below B4.out HRB.out.1 HSZ4.out)
                  have HSZ5 := hide (Nat.le_trans HSZ4.out ho.size)
                  clear ho O4 G4 B4 HSZ4 Q4 HSR HNEW
                  clear hso hci hrq
                  as_aux_lemma =>
                    go_wp2_with fail
                    refine (HRD.out _).mono ?_
                    rintro e w6 ⟨hcs, hb⟩
                    have C6 := hide (CI.out.below hb)
                    have R6 := hide (RQ5.out.below hb)
                    have O6 := hide ((hb.block _ (heap_lt O5.out)).trans O5.out)
                    have G6 := hide (show _ ∧ _ ∧ _ from ⟨(hb.block _ (heap_lt G5.out.1)).trans G5.out.1, (hb.block _ (heap_lt G5.out.2.1)).trans G5.out.2.1, (hb.block _ (heap_lt G5.out.2.2)).trans G5.out.2.2⟩)
                    have B6 := hide (B5.out.trans (hb.mono HSZ5.out))
                    have HSZ6 := hide (Nat.le_trans HSZ5.out hb.size)
                    clear O5 G5 B5 HSZ5
                    clear hb HRD CI RQ5
                    rcases hcs with ⟨hno2, -⟩ | ⟨M2, r2, a2, c2, hso2, rfl, hr2⟩
                    · rw [HSO.out] at hno2; cases hno2
                    · rw [HSO.out] at hso2
                      simp only [Option.some.injEq, Prod.mk.injEq] at hso2
                      obtain ⟨hmm, rfl⟩ := hso2
                      have T6 := hide hr2
                      clear hr2
                      have HSB := hide (fun W h1 h2 => same25_any w4.heap.size p' kp kp (hdX p : Int) V M' a2 c2 M2 hmm.symm W h1 h2)
                      unfold regV at HSB ⊢
                      clear hmm HSO
                      generalize hdX p = hx at *
                      obtain ⟨n9, hn9⟩ : ∃ n9, M2.length = n9 := ⟨_, rfl⟩
                      rw [hn9] at HSB ⊢
                      clear hn9
                      go_upto_region 21 with (refine rw_store rfl 27 (.tmp 21) (.tmp 119) rfl w6.heap.size rfl #[.int .i64 kp, .int .i64 (hx : Int), .slice a2 n9 c2] rfl _ (heap_new w6 _) (by kernel_rfl) rfl (by simp [Value.oneCell']) ?_)
                      have hal := (Below.refl w6.heap.size w6).alloc (Nat.le_refl _) (.cells #[.int .i64 0, .int .i64 0, .slice none 0 0] 27)
                      have XW7 := hide (setRow_same (cs := #[.int .i64 kp, .int .i64 (hx : Int), .slice a2 n9 c2]) (heap_new w6 (.cells #[.int .i64 0, .int .i64 0, .slice none 0 0] 27)))
                      have hb := setRow_below (hal.trans (Below.refl _ _)) (Nat.le_refl _) hal.size (#[.int .i64 kp, .int .i64 (hx : Int), .slice a2 n9 c2] : Array Value)
                      have C7 := hide (C6.out.below hb)
                      have R7 := hide (R6.out.below hb)
                      have T7 := hide (T6.out.below hb)
                      clear C6 R6 T6
                      have O7 := hide ((hb.block _ (heap_lt O6.out)).trans O6.out)
                      have G7 := hide (show _ ∧ _ ∧ _ from ⟨(hb.block _ (heap_lt G6.out.1)).trans G6.out.1, (hb.block _ (heap_lt G6.out.2.1)).trans G6.out.2.1, (hb.block _ (heap_lt G6.out.2.2)).trans G6.out.2.2⟩)
                      have B7 := hide (B6.out.trans (hb.mono HSZ6.out))
                      have HSZ7 := hide (Nat.le_trans HSZ6.out hb.size)
                      clear O6 G6 B6 HSZ6
                      clear hal hb
                      generalize (w6.alloc (.cells #[.int .i64 0, .int .i64 0, .slice none 0 0] 27)).setRow w6.heap.size #[.int .i64 kp, .int .i64 (hx : Int), .slice a2 n9 c2] = w7 at *
                      generalize w6.heap.size = xb at *
                      obtain ⟨hl, hleft⟩ := left_is r rest w7 R7.out
                      have HLF := hide (fun W (h : RQ W r true rest) => (left_is r rest W h).2)
                      obtain ⟨hps, hps2⟩ := HPS.out
                      have hlr : (rest.length : Int) ≤ 1000000 := by omega
                      have hr0 : 0 ≤ (rest.length : Int) := Int.natCast_nonneg _
                      obtain ⟨rl, hrl⟩ : ∃ rl : Int, (rest.length : Int) = rl := ⟨_, rfl⟩
                      have HRL := hide hrl
                      rw [hrl] at hlr hr0 HLF ⊢
                      obtain ⟨hw, hwb⟩ := wrap_back2 p.length rl hps2 hr0 hlr
                      clear hleft hl hps2 hrl
                      go_wp2_with (refine wpList_rowLoadG2 (by kernel_rfl) 27 (.tmp 21) rfl xb rfl 27 #[.int .i64 kp, .int .i64 (hx : Int), .slice a2 n9 c2] (0, 0) _ XW7.out Try.underlying27 rfl (by kernel_rfl) ?_)
                      refine (HSB.out _ C7.out T7.out).mono ?_
                      rintro e w8 ⟨rfl, hb⟩
                      have R8 := hide (R7.out.below hb)
                      have O8 := hide ((hb.block _ (heap_lt O7.out)).trans O7.out)
                      have G8 := hide (show _ ∧ _ ∧ _ from ⟨(hb.block _ (heap_lt G7.out.1)).trans G7.out.1, (hb.block _ (heap_lt G7.out.2.1)).trans G7.out.2.1, (hb.block _ (heap_lt G7.out.2.2)).trans G7.out.2.2⟩)
                      have B8 := hide (B7.out.trans (hb.mono HSZ7.out))
                      have HSZ8 := hide (Nat.le_trans HSZ7.out hb.size)
                      clear O7 G7 B7 HSZ7
                      clear hb C7 T7 R7
                      go_wp2_with fail
                      refine (HLF.out _ R8.out).mono ?_
                      rintro e w9 ⟨rfl, rfl⟩
                      go_wp2_with fail
                      go_roundw
                      case rel => exact ⟨j + 1, HJL.out, by go_num, O8.out, G8.out.1, G8.out.2.1, G8.out.2.2, B8.out, HSZ8.out⟩
                      case measure => have := HJL.out; simp [intOf]; omega
              · have HSR := hide (fun W => slread_arg r 0 (by decide) W)
                have HRN := hide (fun W => HRN.out (by decide) W)
                clear HRD HNEW
                as_aux_lemma =>
                  go_wp2_with fail
                  refine (HSR.out _).mono ?_
                  rintro e w5 ⟨rfl, rfl⟩
                  go_wp2_with fail
                  refine (HRN.out _).mono ?_
                  rintro e w6 ⟨rfl, hb⟩
                  have O6 := hide ((hb.block _ (heap_lt O4.out)).trans O4.out)
                  have G6 := hide (show _ ∧ _ ∧ _ from ⟨(hb.block _ (heap_lt G4.out.1)).trans G4.out.1, (hb.block _ (heap_lt G4.out.2.1)).trans G4.out.2.1, (hb.block _ (heap_lt G4.out.2.2)).trans G4.out.2.2⟩)
                  have B6 := hide (B4.out.trans (hb.mono HSZ4.out))
                  have HSZ6 := hide (Nat.le_trans HSZ4.out hb.size)
                  clear O4 G4 B4 HSZ4
                  clear hb
                  rw [show regV 0 0 none 0 0 = .agg #[.int .i64 0, .int .i64 0, .slice none 0 0] from rfl]
                  go_upto_region 21 with (refine rw_store rfl 27 (.tmp 21) (.tmp 119) rfl w6.heap.size rfl #[.int .i64 0, .int .i64 0, .slice none 0 0] rfl _ (heap_new w6 _) (by kernel_rfl) rfl (by simp [Value.oneCell']) ?_)
                  have hal := (Below.refl w6.heap.size w6).alloc (Nat.le_refl _) (.cells #[.int .i64 0, .int .i64 0, .slice none 0 0] 27)
                  have XW7 := hide (setRow_same (cs := #[.int .i64 0, .int .i64 0, .slice none 0 0]) (heap_new w6 (.cells #[.int .i64 0, .int .i64 0, .slice none 0 0] 27)))
                  have hb := setRow_below (hal.trans (Below.refl _ _)) (Nat.le_refl _) hal.size (#[.int .i64 0, .int .i64 0, .slice none 0 0] : Array Value)
                  have O7 := hide ((hb.block _ (heap_lt O6.out)).trans O6.out)
                  have G7 := hide (show _ ∧ _ ∧ _ from ⟨(hb.block _ (heap_lt G6.out.1)).trans G6.out.1, (hb.block _ (heap_lt G6.out.2.1)).trans G6.out.2.1, (hb.block _ (heap_lt G6.out.2.2)).trans G6.out.2.2⟩)
                  have B7 := hide (B6.out.trans (hb.mono HSZ6.out))
                  have HSZ7 := hide (Nat.le_trans HSZ6.out hb.size)
                  clear O6 G6 B6 HSZ6
                  clear hal hb
                  generalize (w6.alloc (.cells #[.int .i64 0, .int .i64 0, .slice none 0 0] 27)).setRow w6.heap.size #[.int .i64 0, .int .i64 0, .slice none 0 0] = w7 at *
                  generalize w6.heap.size = xb at *
                  go_wp2_with fail
                  go_roundw
                  case rel => exact ⟨j + 1, HJL.out, by go_num, O7.out, G7.out.1, G7.out.2.1, G7.out.2.2, B7.out, HSZ7.out⟩
                  case measure => have := HJL.out; simp [intOf]; omega
            · obtain rfl : j = 4 := by omega
              go_wp2_with fail
              go_roundw
              case rel => exact ⟨k + 1, HLT.out, by go_num, G1.out.1, G1.out.2.1, G1.out.2.2, B1.out, HSZ1.out⟩
              case measure => have := HLT.out; simp [intOf]; omega
        · obtain rfl : k = 3 := by omega
          as_aux_lemma =>
            have hal := (Below.refl wr.heap.size wr).alloc (Nat.le_refl _) (.cells #[.slice none 0 0, .bool false] 57)
            have F2 := hide (show WrAt (wr.alloc (.cells #[.slice none 0 0, .bool false] 57)) wr.heap.size wr.heap.size [] false from ⟨none, 0, heap_new _ _, ⟨rfl, .inl ⟨rfl, rfl⟩⟩⟩)
            have B2 := hide (B1.out.trans (hal.mono HSZ1.out))
            have HSZ2 := hide (Nat.le_trans HSZ1.out hal.size)
            clear hal B1 HSZ1
            go_upto_region 27 with (fail)
            generalize wr.alloc (.cells #[.slice none 0 0, .bool false] 57) = w2 at *
            generalize wr.heap.size = wq at *
            go_wp2_with fail
            refine (slwrite_none wq _).mono ?_
            rintro e w3 ⟨rfl, rfl⟩
            go_wp2_with fail
            refine (wbytes_any wq wq [] false w2 F2.out).mono ?_
            rintro e w5 ⟨rfl, rfl⟩
            rw [show (if false = true then (2 : Int) else 0) = 0 from rfl, show (if false = true then (⟨#[]⟩ : ByteArray) else bs []) = ⟨#[]⟩ from rfl]
            clear F2
            go_wp2_with fail
            refine (sladd_none ⟨⟨0, 1, 1, 0, 1, 0, false, []⟩, none, 0⟩ _).mono ?_
            rintro e w3 ⟨rfl, hb⟩
            have B3 := hide (B2.out.trans (hb.mono HSZ2.out))
            have HSZ3 := hide (Nat.le_trans HSZ2.out hb.size)
            clear hb B2 HSZ2
            go_wp2_with fail
            refine (slread_none _).mono ?_
            rintro e w4 ⟨rfl, hb⟩
            have B4 := hide (B3.out.trans (hb.mono HSZ3.out))
            have HSZ4 := hide (Nat.le_trans HSZ3.out hb.size)
            clear hb B3 HSZ3
            go_wp2_with fail
            refine (slget_none 1 _).mono ?_
            rintro e w5 ⟨rfl, hb⟩
            have B5 := hide (B4.out.trans (hb.mono HSZ4.out))
            have HSZ5 := hide (Nat.le_trans HSZ4.out hb.size)
            clear hb B4 HSZ4
            unfold txV txC ta0 tx0
            dsimp only
            go_upto_region 32 with (refine rw_store rfl 35 (.tmp 32) (.tmp 173) rfl w5.heap.size rfl #[.int .i64 0, .int .u8 0, .int .i64 0, .int .i64 0, .int .i64 0, .int .i64 0, .bool false, .slice none 0 0] rfl _ (heap_new w5 (.cells #[.int .i64 0, .int .u8 0, .int .i64 0, .int .i64 0, .int .i64 0, .int .i64 0, .bool false, .slice none 0 0] 35)) (by kernel_rfl) rfl (by simp [Value.oneCell']) ?_)
            have hal := (Below.refl w5.heap.size w5).alloc (Nat.le_refl _) (.cells #[.int .i64 0, .int .u8 0, .int .i64 0, .int .i64 0, .int .i64 0, .int .i64 0, .bool false, .slice none 0 0] 35)
            have hb := setRow_below (hal.trans (Below.refl _ _)) (Nat.le_refl _) hal.size (#[.int .i64 0, .int .u8 0, .int .i64 0, .int .i64 0, .int .i64 0, .int .i64 0, .bool false, .slice none 0 0] : Array Value)
            have B6 := hide (B5.out.trans (hb.mono HSZ5.out))
            have HSZ6 := hide (Nat.le_trans HSZ5.out hb.size)
            clear hb B5 HSZ5
            clear hal
            generalize (w5.alloc (.cells #[.int .i64 0, .int .u8 0, .int .i64 0, .int .i64 0, .int .i64 0, .int .i64 0, .bool false, .slice none 0 0] 35)).setRow w5.heap.size (#[.int .i64 0, .int .u8 0, .int .i64 0, .int .i64 0, .int .i64 0, .int .i64 0, .bool false, .slice none 0 0] : Array Value) = w6 at *
            go_wp2_with fail
            refine (wakes25 _).mono ?_
            rintro e w8 ⟨rfl, hb⟩
            have B8 := hide (B6.out.trans (hb.mono HSZ6.out))
            have HSZ8 := hide (Nat.le_trans HSZ6.out hb.size)
            clear hb B6 HSZ6
            go_wp2_with fail
            refine (slnext_none _).mono ?_
            rintro e w9 ⟨rfl, rfl⟩
            go_wp2_with fail
            refine (sllist_none _).mono ?_
            rintro e w9 ⟨rfl, rfl⟩
            go_wp2_with fail
            refine (slcopy_none _).mono ?_
            rintro e w9 ⟨rfl, rfl⟩
            go_wp2_with fail
            go_ret
            exact ⟨rfl, by rw [HQ.out]; exact B8.out⟩
theorem saleReads_all (s : ByteArray) (hs : s.size ≤ 9223372036854775807) (v1 : Value) (u : Value) (hu : ∃ xs : List Int, xs.length = 2 ∧ u = .agg (xs.map (Value.int .u16)).toArray ∧ ∀ x ∈ xs, (Lit.int .u16 x).wf = true) (w : World) (hz : ActsT w v1) :
    Calls Try.prog 3 #[.string s, v1, u] w fun e w' => e = .returned (.bool true) ∧ Below w.heap.size w w' := by
  obtain ⟨xs, hl, rfl, hx⟩ := hu
  match xs, hl, hx with
  | [a0, a1], _, hx =>
    have h0 := wf_u16 (hx a0 (by simp))
    have h1 := wf_u16 (hx a1 (by simp))
    exact saleReads_walk s hs v1 a0 a1 h0.1 h0.2 h1.1 h1.2 w hz

set_option maxRecDepth 100000 in
theorem saleReads_lifted (os : Os) (started : os.Started) (H : Type) (enc : TypeId × Value → H) :
    ReturnsInHanded {} Try.checked os 3 .any (Rows.saleReadsSpec.pre6 enc Try.prog Try.f3 Rows.saleReadsRow.domain false) (Rows.saleReadsSpec.post enc Try.prog Try.f3 false true false false) := by
  refine returnsInHanded_of_change (C := Try.checked) own started (by kernel_rfl) Try.func3
    (ChangeSpec.witness6 (enc := enc) (C := Try.checked) false ⟨#[], #[.string ⟨#[]⟩, .slice none 0 0, .agg #[.int .u16 0, .int .u16 0]], []⟩ 8 (by kernel_rfl) (by kernel_rfl) (by kernel_rfl) (by kernel_rfl)) ?_
  intro W base args ds gs before hval0 hW _ _
  have hval : ∀ (j : Nat) t v, Try.f3.params[j]? = some t → args[j]? = some v → Value.okWide Try.prog W .any base t v := hval0
  have hW' := hW
  obtain ⟨p, q, hA0, hV, rfl, hfz, hnd⟩ := hW
  have hA : DataW.TrodAll enc Try.prog W 0 (fun _ => true) true Try.f3.params.toList args.toList ds p := hA0
  rw [Try.params3] at hA hval
  obtain ⟨v0, vs0, d0, ds0, p0, q0, hargs, rfl, rfl, h0, r0⟩ := trodAll_cons hA
  obtain ⟨v1, vs1, d1, ds1, p1, q1, rfl, rfl, rfl, h1, r1⟩ := trodAll_cons r0
  obtain ⟨v2, vs2, d2, ds2, p2, q2, rfl, rfl, rfl, h2, r2⟩ := trodAll_cons r1
  obtain ⟨rfl, rfl, rfl⟩ := trodAll_nil r2
  obtain rfl : args = #[v0, v1, v2] := by cases args; simp_all
  obtain ⟨rfl, rfl⟩ := trodVars_none hV
  obtain ⟨s, rfl, rfl, rfl, w0⟩ := ChangeMaps.open_string Try.underlying9 (hval 0 9 v0 rfl rfl) h0
  have z0 : s.size ≤ 9223372036854775807 := w0
  have z1 := open_actTs (hval 1 22 v1 rfl rfl) h1
  have z2 := open_nums_array 2 Try.underlying24 Try.underlying23 (by kernel_rfl) (by kernel_rfl) (hval 2 24 v2 rfl rfl) h2
  clear hA0 hval0
  refine (saleReads_all s z0 v1 v2 z2 W z1).mono fun e W' ⟨he, hb⟩ => ?_
  subst he
  exact ⟨_, rfl, post_law laidOut (of_decide_eq_true (by kernel_rfl)) rfl rfl Try.underlying4 hW' ⟨rfl, rfl, rfl⟩ hb⟩

/-- THE STATEMENT -/
theorem saleReads_holds : Rows.SaleReadsSaid :=
  OpenClaim.holds_of_wide 3 Try.f3 rfl rfl rfl rfl rfl rfl rfl ⟨rfl, rfl, rfl, rfl, rfl⟩ rfl rfl rfl rfl rfl (by kernel_rfl) Try.func3 (by kernel_rfl)
    (of_decide_eq_true (by kernel_rfl)) (by unfold Func.isWrapper; first | (rw [if_pos (by decide +kernel)]; kernel_rfl) | (rw [if_neg (by decide +kernel)]; exact ⟨rfl, rfl⟩))
    (fun os started H enc _ => saleReads_lifted os started H enc)

end Go.Proofs.Ytbnbfnlfgmlcgaa
