/-
  Layer 28: Encode of a request.
-/
import Derived.Test.YtkbikflincjhhaaReq

namespace Go.Proofs.Ytkbikflincjhhaa
set_option linter.unusedSimpArgs false
set_option linter.unusedVariables false
open Go.RowKit Go.WideShapes Go.ChangeShapes Go.ChangeAt Go.Deep
def EncIs (r : RqM) (w : World) (e : Ending) (w' : World) : Prop := e = .returned (.tuple #[.string (outS (encOk r) (encT r)), .int .i64 (outE (encOk r))]) ∧ Below w.heap.size w w'
theorem end_enc {r : RqM} {w : World} {ok : Bool} {T : List UInt8} {W : World} (h1 : ok = encOk r) (h2 : T = encT r) (hb : Below w.heap.size w W) : EncIs r w (.returned (.tuple #[.string (outS ok T), .int .i64 (outE ok)])) W := by
  subst h1 h2
  exact ⟨rfl, hb⟩
set_option maxRecDepth 100000 in
set_option maxHeartbeats 400000 in
theorem enc_no (r : RqM) (hr : RqOk r) (hk : r.k < 1 ∨ 14 < r.k) (a : Option Addr) (cap : Nat) (w : World) (hin : LnIn w a r.L) :
    Calls Try.prog 8 #[.agg #[.int .u8 r.k, .int .u8 r.ek, .int .u64 r.key, .int .i64 r.ref, .int .i64 r.amt, .int .i64 r.code, .int .u8 r.ak, .string r.name, .slice a r.L.length cap, .int .i64 r.n]] w (EncIs r w) := by
  have hal := (Below.refl w.heap.size w).alloc (Nat.le_refl _) (.cells #[.int .u8 r.k, .int .u8 r.ek, .int .u64 r.key, .int .i64 r.ref, .int .i64 r.amt, .int .i64 r.code, .int .u8 r.ak, .string r.name, .slice a r.L.length cap, .int .i64 r.n] 39)
  have RB := hide (heap_new w (.cells #[.int .u8 r.k, .int .u8 r.ek, .int .u64 r.key, .int .i64 r.ref, .int .i64 r.amt, .int .i64 r.code, .int .u8 r.ak, .string r.name, .slice a r.L.length cap, .int .i64 r.n] 39))
  have BL := hide hal
  have HIN := hide (hin.below hal)
  have HR := hide hr
  have HRT := hide (fun W => right_any r.k W)
  have HEV := hide (fun W => event_any r.k W)
  clear hal hin hr
  rw [show rtB r.k = false from decide_eq_false (by omega)] at HRT
  have HEQ := hide (encOk_no hk)
  clear hk
  go_enter Try.func8, Try.ntmps8
  go_upto_region 1 with (fail)
  generalize w.alloc (.cells #[.int .u8 r.k, .int .u8 r.ek, .int .u64 r.key, .int .i64 r.ref, .int .i64 r.amt, .int .i64 r.code, .int .u8 r.ak, .string r.name, .slice a r.L.length cap, .int .i64 r.n] 39) = w1 at *
  generalize hrb : w.heap.size = rb at RB ⊢
  have HRBS := hide hrb
  clear hrb
  have e0 := cell_of_block RB.out 0
  go_wp2_with fail
  refine (HRT.out _).mono ?_
  rintro e w2 ⟨rfl, rfl⟩
  go_wp2_with fail
  go_ret2
  refine ⟨?_, by rw [HRBS.out] at BL; exact HRBS.out ▸ BL.out⟩
  rw [HEQ.out]
  rfl
set_option maxRecDepth 100000 in
set_option maxHeartbeats 400000 in
theorem enc_ev (r : RqM) (hr : RqOk r) (hk : 1 ≤ r.k ∧ r.k ≤ 9) (a : Option Addr) (cap : Nat) (w : World) (hin : LnIn w a r.L) :
    Calls Try.prog 8 #[.agg #[.int .u8 r.k, .int .u8 r.ek, .int .u64 r.key, .int .i64 r.ref, .int .i64 r.amt, .int .i64 r.code, .int .u8 r.ak, .string r.name, .slice a r.L.length cap, .int .i64 r.n]] w (EncIs r w) := by
  have hal := (Below.refl w.heap.size w).alloc (Nat.le_refl _) (.cells #[.int .u8 r.k, .int .u8 r.ek, .int .u64 r.key, .int .i64 r.ref, .int .i64 r.amt, .int .i64 r.code, .int .u8 r.ak, .string r.name, .slice a r.L.length cap, .int .i64 r.n] 39)
  have RB := hide (heap_new w (.cells #[.int .u8 r.k, .int .u8 r.ek, .int .u64 r.key, .int .i64 r.ref, .int .i64 r.amt, .int .i64 r.code, .int .u8 r.ak, .string r.name, .slice a r.L.length cap, .int .i64 r.n] 39))
  have BL := hide hal
  have HIN := hide (hin.below hal)
  have HR := hide hr
  have HRT := hide (fun W => right_any r.k W)
  have HEV := hide (fun W => event_any r.k W)
  clear hal hin hr
  rw [show rtB r.k = true from decide_eq_true (by omega)] at HRT
  rw [show evB r.k = true from decide_eq_true (by omega)] at HEV
  have n10 : (r.k == 10) = false := by rw [beq_eq_false_iff_ne]; omega
  have n11 : (r.k == 11) = false := by rw [beq_eq_false_iff_ne]; omega
  have n12 : (r.k == 12) = false := by rw [beq_eq_false_iff_ne]; omega
  have m10 : ¬ r.k = 10 := by omega
  have m11 : ¬ r.k = 11 := by omega
  have m12 : ¬ r.k = 12 := by omega
  have HKK := hide hk
  clear hk
  go_enter Try.func8, Try.ntmps8
  go_upto_region 1 with (fail)
  generalize w.alloc (.cells #[.int .u8 r.k, .int .u8 r.ek, .int .u64 r.key, .int .i64 r.ref, .int .i64 r.amt, .int .i64 r.code, .int .u8 r.ak, .string r.name, .slice a r.L.length cap, .int .i64 r.n] 39) = w1 at *
  generalize hrb : w.heap.size = rb at RB ⊢
  have HRBS := hide hrb
  clear hrb
  have HSZ := hide (show w.heap.size ≤ w1.heap.size from by rw [HRBS.out]; exact Nat.le_of_lt (heap_lt RB.out))
  have e0 := cell_of_block RB.out 0
  go_wp2_with fail
  refine (HRT.out _).mono ?_
  rintro e w2 ⟨rfl, rfl⟩
  have WN := hide (WQ.new (w := w1) (Nat.le_refl _))
  have hal := (Below.refl w1.heap.size w1).alloc (Nat.le_refl _) (.cells #[.slice none 0 0, .bool false] 84)
  have BL2 := hide hal
  have RB2 := hide ((hal.block _ (heap_lt RB.out)).trans RB.out)
  have HC0 := hide (fun W hw => wq_number w1.heap.size w1.heap.size true [] 0 (by omega) r.k HR.out.k.1 (by have := HR.out.k; omega) 1 W hw (Nat.le_refl _))
  rw [fit1_is _ HR.out.k, put1_is, List.nil_append, Bool.and_true] at HC0
  have hwk : IntKind.u64.wrap r.k = r.k := by have := HR.out.k; rw [IntKind.wrap_u64]; omega
  clear hal e0
  go_upto_region 4 with (fail)
  generalize w1.alloc (.cells #[.slice none 0 0, .bool false] 84) = w2 at *
  generalize hq : w1.heap.size = q at WN HC0 ⊢
  have HQ := hide hq
  clear hq
  have e0 := cell_of_block RB2.out 0
  go_wp2_with fail
  refine (HC0.out _ (by rw [HQ.out] at *; exact WN.out)).mono ?_
  rintro e w3 ⟨rfl, hw, hb, hk3⟩
  have WR3 := hide hw
  have BL3 := hide (BL2.out.trans (by rw [HQ.out]; exact hb))
  have RB3 := hide ((BL3.out.block _ (heap_lt RB.out)).trans RB.out)
  clear hw hb hk3 e0 BL2 RB2 WN HC0
  have e0 := cell_of_block RB3.out 0
  go_wp2_with fail
  refine (HEV.out _).mono ?_
  rintro e w4 ⟨rfl, rfl⟩
  have e1 := cell_of_block RB3.out 1
  have e2 := cell_of_block RB3.out 2
  have e3 := cell_of_block RB3.out 3
  have e4 := cell_of_block RB3.out 4
  have e5 := cell_of_block RB3.out 5
  have e6 := cell_of_block RB3.out 6
  have e7 := cell_of_block RB3.out 7
  have e8 := cell_of_block RB3.out 8
  go_wp2_with fail
  have hwe := wev_any r HR.out HKK.out a cap q w1 w3 HIN.out BL3.out (putL r.k.toNat 1) (by rw [HQ.out]; exact WR3.out) (by rw [HQ.out]; exact Nat.le_refl _)
  refine hwe.mono ?_
  rintro e w5 ⟨rfl, hw, hb⟩
  have WR5 := hide hw
  have BL5 := hide hb
  have RB5 := hide ((hb.block _ (heap_lt RB.out)).trans RB.out)
  clear hwe hw hb e0 e1 e2 e3 e4 e5 e6 e7 e8 RB3 WR3 BL3
  have e0 := cell_of_block RB5.out 0
  go_wp2_with fail
  refine (wq_bytes _ _ _ _ _ _ WR5.out).mono ?_
  rintro e w6 ⟨rfl, rfl⟩
  go_wp2_with fail
  go_ret2
  exact end_enc rfl rfl (BL.out.trans (BL5.out.mono HSZ.out))
set_option maxRecDepth 100000 in
set_option maxHeartbeats 400000 in
theorem enc_bal (r : RqM) (hr : RqOk r) (hk : r.k = 10) (a : Option Addr) (cap : Nat) (w : World) (hin : LnIn w a r.L) :
    Calls Try.prog 8 #[.agg #[.int .u8 r.k, .int .u8 r.ek, .int .u64 r.key, .int .i64 r.ref, .int .i64 r.amt, .int .i64 r.code, .int .u8 r.ak, .string r.name, .slice a r.L.length cap, .int .i64 r.n]] w (EncIs r w) := by
  have hal := (Below.refl w.heap.size w).alloc (Nat.le_refl _) (.cells #[.int .u8 r.k, .int .u8 r.ek, .int .u64 r.key, .int .i64 r.ref, .int .i64 r.amt, .int .i64 r.code, .int .u8 r.ak, .string r.name, .slice a r.L.length cap, .int .i64 r.n] 39)
  have RB := hide (heap_new w (.cells #[.int .u8 r.k, .int .u8 r.ek, .int .u64 r.key, .int .i64 r.ref, .int .i64 r.amt, .int .i64 r.code, .int .u8 r.ak, .string r.name, .slice a r.L.length cap, .int .i64 r.n] 39))
  have BL := hide hal
  have HIN := hide (hin.below hal)
  have HR := hide hr
  have HRT := hide (fun W => right_any r.k W)
  have HEV := hide (fun W => event_any r.k W)
  clear hal hin hr
  have HEQ := hide (And.intro (encOk_10 hk) (encB_10 hk))
  rw [show rtB r.k = true from decide_eq_true (by omega)] at HRT
  rw [show evB r.k = false from decide_eq_false (by omega)] at HEV
  have n10 : (r.k == 10) = true := by rw [hk]; rfl
  have n11 : (r.k == 11) = false := by rw [hk]; rfl
  have n12 : (r.k == 12) = false := by rw [hk]; rfl
  have HKK := hide hk
  clear hk
  go_enter Try.func8, Try.ntmps8
  go_upto_region 1 with (fail)
  generalize w.alloc (.cells #[.int .u8 r.k, .int .u8 r.ek, .int .u64 r.key, .int .i64 r.ref, .int .i64 r.amt, .int .i64 r.code, .int .u8 r.ak, .string r.name, .slice a r.L.length cap, .int .i64 r.n] 39) = w1 at *
  generalize hrb : w.heap.size = rb at RB ⊢
  have HRBS := hide hrb
  clear hrb
  have HSZ := hide (show w.heap.size ≤ w1.heap.size from by rw [HRBS.out]; exact Nat.le_of_lt (heap_lt RB.out))
  have e0 := cell_of_block RB.out 0
  go_wp2_with fail
  refine (HRT.out _).mono ?_
  rintro e w2 ⟨rfl, rfl⟩
  have WN := hide (WQ.new (w := w1) (Nat.le_refl _))
  have hal := (Below.refl w1.heap.size w1).alloc (Nat.le_refl _) (.cells #[.slice none 0 0, .bool false] 84)
  have BL2 := hide hal
  have RB2 := hide ((hal.block _ (heap_lt RB.out)).trans RB.out)
  have HC0 := hide (fun W hw => wq_number w1.heap.size w1.heap.size true [] 0 (by omega) r.k HR.out.k.1 (by have := HR.out.k; omega) 1 W hw (Nat.le_refl _))
  rw [fit1_is _ HR.out.k, put1_is, List.nil_append, Bool.and_true] at HC0
  have hwk : IntKind.u64.wrap r.k = r.k := by have := HR.out.k; rw [IntKind.wrap_u64]; omega
  clear hal e0
  go_upto_region 4 with (fail)
  generalize w1.alloc (.cells #[.slice none 0 0, .bool false] 84) = w2 at *
  generalize hq : w1.heap.size = q at WN HC0 ⊢
  have HQ := hide hq
  clear hq
  have e0 := cell_of_block RB2.out 0
  go_wp2_with fail
  refine (HC0.out _ (by rw [HQ.out] at *; exact WN.out)).mono ?_
  rintro e w3 ⟨rfl, hw, hb, hk3⟩
  have WR3 := hide hw
  have BL3 := hide (BL2.out.trans (by rw [HQ.out]; exact hb))
  have RB3 := hide ((BL3.out.block _ (heap_lt RB.out)).trans RB.out)
  clear hw hb hk3 e0 BL2 RB2 WN HC0
  have e0 := cell_of_block RB3.out 0
  go_wp2_with fail
  refine (HEV.out _).mono ?_
  rintro e w4 ⟨rfl, rfl⟩
  have e9 := cell_of_block RB3.out 9
  have HC1 := hide (wq_number w1.heap.size q true (putL r.k.toNat 1) (0 + 8) (by omega) (IntKind.u64.wrap r.n) (wu64 _).1 (wu64 _).2 2 w3 (by rw [HQ.out]; exact WR3.out) (by rw [HQ.out]; exact Nat.le_refl _))
  rw [fit2_is _ HR.out.n, put2_is, Bool.true_and] at HC1
  go_wp2_with fail
  refine HC1.out.mono ?_
  rintro e w5 ⟨rfl, hw, hb, -⟩
  have WR5 := hide hw
  have BL5 := hide (BL3.out.trans hb)
  clear hw hb e0 e9 RB3 WR3 BL3 HC1
  go_wp2_with fail
  refine (wq_bytes _ _ _ _ _ _ WR5.out).mono ?_
  rintro e w6 ⟨rfl, rfl⟩
  go_wp2_with fail
  go_ret2
  exact end_enc HEQ.out.1.symm (by unfold encT; rw [HEQ.out.2]) (BL.out.trans (BL5.out.mono HSZ.out))
set_option maxRecDepth 100000 in
set_option maxHeartbeats 400000 in
theorem enc_tx (r : RqM) (hr : RqOk r) (hk : r.k = 11 ∨ r.k = 12) (a : Option Addr) (cap : Nat) (w : World) (hin : LnIn w a r.L) :
    Calls Try.prog 8 #[.agg #[.int .u8 r.k, .int .u8 r.ek, .int .u64 r.key, .int .i64 r.ref, .int .i64 r.amt, .int .i64 r.code, .int .u8 r.ak, .string r.name, .slice a r.L.length cap, .int .i64 r.n]] w (EncIs r w) := by
  have hal := (Below.refl w.heap.size w).alloc (Nat.le_refl _) (.cells #[.int .u8 r.k, .int .u8 r.ek, .int .u64 r.key, .int .i64 r.ref, .int .i64 r.amt, .int .i64 r.code, .int .u8 r.ak, .string r.name, .slice a r.L.length cap, .int .i64 r.n] 39)
  have RB := hide (heap_new w (.cells #[.int .u8 r.k, .int .u8 r.ek, .int .u64 r.key, .int .i64 r.ref, .int .i64 r.amt, .int .i64 r.code, .int .u8 r.ak, .string r.name, .slice a r.L.length cap, .int .i64 r.n] 39))
  have BL := hide hal
  have HIN := hide (hin.below hal)
  have HR := hide hr
  have HRT := hide (fun W => right_any r.k W)
  have HEV := hide (fun W => event_any r.k W)
  clear hal hin hr
  have HEQ := hide (And.intro (encOk_11 hk) (encB_11 hk))
  rw [show rtB r.k = true from decide_eq_true (by omega)] at HRT
  rw [show evB r.k = false from decide_eq_false (by omega)] at HEV
  rcases hk with hk | hk
  · skip
    have n10 : (r.k == 10) = false := by rw [hk]; rfl
    have n11 : (r.k == 11) = true := by rw [hk]; rfl
    have n12 : (r.k == 12) = false := by rw [hk]; rfl
    have HKK := hide hk
    clear hk
    go_enter Try.func8, Try.ntmps8
    go_upto_region 1 with (fail)
    generalize w.alloc (.cells #[.int .u8 r.k, .int .u8 r.ek, .int .u64 r.key, .int .i64 r.ref, .int .i64 r.amt, .int .i64 r.code, .int .u8 r.ak, .string r.name, .slice a r.L.length cap, .int .i64 r.n] 39) = w1 at *
    generalize hrb : w.heap.size = rb at RB ⊢
    have HRBS := hide hrb
    clear hrb
    have HSZ := hide (show w.heap.size ≤ w1.heap.size from by rw [HRBS.out]; exact Nat.le_of_lt (heap_lt RB.out))
    have e0 := cell_of_block RB.out 0
    go_wp2_with fail
    refine (HRT.out _).mono ?_
    rintro e w2 ⟨rfl, rfl⟩
    have WN := hide (WQ.new (w := w1) (Nat.le_refl _))
    have hal := (Below.refl w1.heap.size w1).alloc (Nat.le_refl _) (.cells #[.slice none 0 0, .bool false] 84)
    have BL2 := hide hal
    have RB2 := hide ((hal.block _ (heap_lt RB.out)).trans RB.out)
    have HC0 := hide (fun W hw => wq_number w1.heap.size w1.heap.size true [] 0 (by omega) r.k HR.out.k.1 (by have := HR.out.k; omega) 1 W hw (Nat.le_refl _))
    rw [fit1_is _ HR.out.k, put1_is, List.nil_append, Bool.and_true] at HC0
    have hwk : IntKind.u64.wrap r.k = r.k := by have := HR.out.k; rw [IntKind.wrap_u64]; omega
    clear hal e0
    go_upto_region 4 with (fail)
    generalize w1.alloc (.cells #[.slice none 0 0, .bool false] 84) = w2 at *
    generalize hq : w1.heap.size = q at WN HC0 ⊢
    have HQ := hide hq
    clear hq
    have e0 := cell_of_block RB2.out 0
    go_wp2_with fail
    refine (HC0.out _ (by rw [HQ.out] at *; exact WN.out)).mono ?_
    rintro e w3 ⟨rfl, hw, hb, hk3⟩
    have WR3 := hide hw
    have BL3 := hide (BL2.out.trans (by rw [HQ.out]; exact hb))
    have RB3 := hide ((BL3.out.block _ (heap_lt RB.out)).trans RB.out)
    clear hw hb hk3 e0 BL2 RB2 WN HC0
    have e0 := cell_of_block RB3.out 0
    go_wp2_with fail
    refine (HEV.out _).mono ?_
    rintro e w4 ⟨rfl, rfl⟩
    have e9 := cell_of_block RB3.out 9
    have HC1 := hide (wq_number w1.heap.size q true (putL r.k.toNat 1) (0 + 8) (by omega) (IntKind.u64.wrap r.n) (wu64 _).1 (wu64 _).2 4 w3 (by rw [HQ.out]; exact WR3.out) (by rw [HQ.out]; exact Nat.le_refl _))
    rw [fit4_is _ HR.out.n, put4_is, Bool.true_and] at HC1
    go_wp2_with fail
    refine HC1.out.mono ?_
    rintro e w5 ⟨rfl, hw, hb, -⟩
    have WR5 := hide hw
    have BL5 := hide (BL3.out.trans hb)
    clear hw hb e0 e9 RB3 WR3 BL3 HC1
    go_wp2_with fail
    refine (wq_bytes _ _ _ _ _ _ WR5.out).mono ?_
    rintro e w6 ⟨rfl, rfl⟩
    go_wp2_with fail
    go_ret2
    exact end_enc HEQ.out.1.symm (by unfold encT; rw [HEQ.out.2]) (BL.out.trans (BL5.out.mono HSZ.out))
  · skip
    have n10 : (r.k == 10) = false := by rw [hk]; rfl
    have n11 : (r.k == 11) = false := by rw [hk]; rfl
    have n12 : (r.k == 12) = true := by rw [hk]; rfl
    have HKK := hide hk
    clear hk
    go_enter Try.func8, Try.ntmps8
    go_upto_region 1 with (fail)
    generalize w.alloc (.cells #[.int .u8 r.k, .int .u8 r.ek, .int .u64 r.key, .int .i64 r.ref, .int .i64 r.amt, .int .i64 r.code, .int .u8 r.ak, .string r.name, .slice a r.L.length cap, .int .i64 r.n] 39) = w1 at *
    generalize hrb : w.heap.size = rb at RB ⊢
    have HRBS := hide hrb
    clear hrb
    have HSZ := hide (show w.heap.size ≤ w1.heap.size from by rw [HRBS.out]; exact Nat.le_of_lt (heap_lt RB.out))
    have e0 := cell_of_block RB.out 0
    go_wp2_with fail
    refine (HRT.out _).mono ?_
    rintro e w2 ⟨rfl, rfl⟩
    have WN := hide (WQ.new (w := w1) (Nat.le_refl _))
    have hal := (Below.refl w1.heap.size w1).alloc (Nat.le_refl _) (.cells #[.slice none 0 0, .bool false] 84)
    have BL2 := hide hal
    have RB2 := hide ((hal.block _ (heap_lt RB.out)).trans RB.out)
    have HC0 := hide (fun W hw => wq_number w1.heap.size w1.heap.size true [] 0 (by omega) r.k HR.out.k.1 (by have := HR.out.k; omega) 1 W hw (Nat.le_refl _))
    rw [fit1_is _ HR.out.k, put1_is, List.nil_append, Bool.and_true] at HC0
    have hwk : IntKind.u64.wrap r.k = r.k := by have := HR.out.k; rw [IntKind.wrap_u64]; omega
    clear hal e0
    go_upto_region 4 with (fail)
    generalize w1.alloc (.cells #[.slice none 0 0, .bool false] 84) = w2 at *
    generalize hq : w1.heap.size = q at WN HC0 ⊢
    have HQ := hide hq
    clear hq
    have e0 := cell_of_block RB2.out 0
    go_wp2_with fail
    refine (HC0.out _ (by rw [HQ.out] at *; exact WN.out)).mono ?_
    rintro e w3 ⟨rfl, hw, hb, hk3⟩
    have WR3 := hide hw
    have BL3 := hide (BL2.out.trans (by rw [HQ.out]; exact hb))
    have RB3 := hide ((BL3.out.block _ (heap_lt RB.out)).trans RB.out)
    clear hw hb hk3 e0 BL2 RB2 WN HC0
    have e0 := cell_of_block RB3.out 0
    go_wp2_with fail
    refine (HEV.out _).mono ?_
    rintro e w4 ⟨rfl, rfl⟩
    have e9 := cell_of_block RB3.out 9
    have HC1 := hide (wq_number w1.heap.size q true (putL r.k.toNat 1) (0 + 8) (by omega) (IntKind.u64.wrap r.n) (wu64 _).1 (wu64 _).2 4 w3 (by rw [HQ.out]; exact WR3.out) (by rw [HQ.out]; exact Nat.le_refl _))
    rw [fit4_is _ HR.out.n, put4_is, Bool.true_and] at HC1
    go_wp2_with fail
    refine HC1.out.mono ?_
    rintro e w5 ⟨rfl, hw, hb, -⟩
    have WR5 := hide hw
    have BL5 := hide (BL3.out.trans hb)
    clear hw hb e0 e9 RB3 WR3 BL3 HC1
    go_wp2_with fail
    refine (wq_bytes _ _ _ _ _ _ WR5.out).mono ?_
    rintro e w6 ⟨rfl, rfl⟩
    go_wp2_with fail
    go_ret2
    exact end_enc HEQ.out.1.symm (by unfold encT; rw [HEQ.out.2]) (BL.out.trans (BL5.out.mono HSZ.out))
set_option maxRecDepth 100000 in
set_option maxHeartbeats 400000 in
theorem enc_plain (r : RqM) (hr : RqOk r) (hk : r.k = 13 ∨ r.k = 14) (a : Option Addr) (cap : Nat) (w : World) (hin : LnIn w a r.L) :
    Calls Try.prog 8 #[.agg #[.int .u8 r.k, .int .u8 r.ek, .int .u64 r.key, .int .i64 r.ref, .int .i64 r.amt, .int .i64 r.code, .int .u8 r.ak, .string r.name, .slice a r.L.length cap, .int .i64 r.n]] w (EncIs r w) := by
  have hal := (Below.refl w.heap.size w).alloc (Nat.le_refl _) (.cells #[.int .u8 r.k, .int .u8 r.ek, .int .u64 r.key, .int .i64 r.ref, .int .i64 r.amt, .int .i64 r.code, .int .u8 r.ak, .string r.name, .slice a r.L.length cap, .int .i64 r.n] 39)
  have RB := hide (heap_new w (.cells #[.int .u8 r.k, .int .u8 r.ek, .int .u64 r.key, .int .i64 r.ref, .int .i64 r.amt, .int .i64 r.code, .int .u8 r.ak, .string r.name, .slice a r.L.length cap, .int .i64 r.n] 39))
  have BL := hide hal
  have HIN := hide (hin.below hal)
  have HR := hide hr
  have HRT := hide (fun W => right_any r.k W)
  have HEV := hide (fun W => event_any r.k W)
  clear hal hin hr
  have HEQ := hide (And.intro (encOk_0 (r := r) (by omega)) (encB_0 (r := r) (by omega)))
  rw [show rtB r.k = true from decide_eq_true (by omega)] at HRT
  rw [show evB r.k = false from decide_eq_false (by omega)] at HEV
  have n10 : (r.k == 10) = false := by rw [beq_eq_false_iff_ne]; omega
  have n11 : (r.k == 11) = false := by rw [beq_eq_false_iff_ne]; omega
  have n12 : (r.k == 12) = false := by rw [beq_eq_false_iff_ne]; omega
  have m10 : ¬ r.k = 10 := by omega
  have m11 : ¬ r.k = 11 := by omega
  have m12 : ¬ r.k = 12 := by omega
  clear hk
  go_enter Try.func8, Try.ntmps8
  go_upto_region 1 with (fail)
  generalize w.alloc (.cells #[.int .u8 r.k, .int .u8 r.ek, .int .u64 r.key, .int .i64 r.ref, .int .i64 r.amt, .int .i64 r.code, .int .u8 r.ak, .string r.name, .slice a r.L.length cap, .int .i64 r.n] 39) = w1 at *
  generalize hrb : w.heap.size = rb at RB ⊢
  have HRBS := hide hrb
  clear hrb
  have HSZ := hide (show w.heap.size ≤ w1.heap.size from by rw [HRBS.out]; exact Nat.le_of_lt (heap_lt RB.out))
  have e0 := cell_of_block RB.out 0
  go_wp2_with fail
  refine (HRT.out _).mono ?_
  rintro e w2 ⟨rfl, rfl⟩
  have WN := hide (WQ.new (w := w1) (Nat.le_refl _))
  have hal := (Below.refl w1.heap.size w1).alloc (Nat.le_refl _) (.cells #[.slice none 0 0, .bool false] 84)
  have BL2 := hide hal
  have RB2 := hide ((hal.block _ (heap_lt RB.out)).trans RB.out)
  have HC0 := hide (fun W hw => wq_number w1.heap.size w1.heap.size true [] 0 (by omega) r.k HR.out.k.1 (by have := HR.out.k; omega) 1 W hw (Nat.le_refl _))
  rw [fit1_is _ HR.out.k, put1_is, List.nil_append, Bool.and_true] at HC0
  have hwk : IntKind.u64.wrap r.k = r.k := by have := HR.out.k; rw [IntKind.wrap_u64]; omega
  clear hal e0
  go_upto_region 4 with (fail)
  generalize w1.alloc (.cells #[.slice none 0 0, .bool false] 84) = w2 at *
  generalize hq : w1.heap.size = q at WN HC0 ⊢
  have HQ := hide hq
  clear hq
  have e0 := cell_of_block RB2.out 0
  go_wp2_with fail
  refine (HC0.out _ (by rw [HQ.out] at *; exact WN.out)).mono ?_
  rintro e w3 ⟨rfl, hw, hb, hk3⟩
  have WR3 := hide hw
  have BL3 := hide (BL2.out.trans (by rw [HQ.out]; exact hb))
  have RB3 := hide ((BL3.out.block _ (heap_lt RB.out)).trans RB.out)
  clear hw hb hk3 e0 BL2 RB2 WN HC0
  have e0 := cell_of_block RB3.out 0
  go_wp2_with fail
  refine (HEV.out _).mono ?_
  rintro e w4 ⟨rfl, rfl⟩
  go_wp2_with fail
  refine (wq_bytes _ _ _ _ _ _ WR3.out).mono ?_
  rintro e w6 ⟨rfl, rfl⟩
  go_wp2_with fail
  go_ret2
  exact end_enc HEQ.out.1.symm (by unfold encT; rw [HEQ.out.2, List.append_nil]) (BL.out.trans (BL3.out.mono HSZ.out))
theorem enc_any (r : RqM) (hr : RqOk r) (a : Option Addr) (cap : Nat) (w : World) (hin : LnIn w a r.L) :
    Calls Try.prog 8 #[.agg #[.int .u8 r.k, .int .u8 r.ek, .int .u64 r.key, .int .i64 r.ref, .int .i64 r.amt, .int .i64 r.code, .int .u8 r.ak, .string r.name, .slice a r.L.length cap, .int .i64 r.n]] w (EncIs r w) := by
  have hc : (r.k < 1 ∨ 14 < r.k) ∨ (1 ≤ r.k ∧ r.k ≤ 9) ∨ r.k = 10 ∨ (r.k = 11 ∨ r.k = 12) ∨ (r.k = 13 ∨ r.k = 14) := by omega
  rcases hc with h | h | h | h | h
  · exact enc_no r hr h a cap w hin
  · exact enc_ev r hr h a cap w hin
  · exact enc_bal r hr h a cap w hin
  · exact enc_tx r hr h a cap w hin
  · exact enc_plain r hr h a cap w hin
end Go.Proofs.Ytkbikflincjhhaa
