import Derived.Test.YtfdgfeohmkdnoaaMShW
import Derived.Test.YtfdgfeohmkdnoaaShG3
import Derived.Test.YtfdgfeohmkdnoaaShG4
/-
  Layer 26: Write by contract.
-/
--import Derived.Test.Zdbg
namespace Go.Proofs.Ytfdgfeohmkdnoaa
set_option linter.unusedSimpArgs false
set_option linter.unusedVariables false
open Go.RowKit Go.WideShapes Go.ChangeShapes Go.ChangeAt Go.Deep
theorem TotOk.ins {t : TotM} (h : TotOk t) : inR t.s ∧ inR t.v ∧ inR t.r ∧ inR t.i ∧ inR t.o := ⟨okR h.s, okR h.v, okR h.r, okR h.i, okR h.o⟩
theorem idxs_0 (x0 x1 x2 x3 x4 : Value) (w : World) : (Instr.index 91 (.agg #[x0, x1, x2, x3, x4]) (.int .i64 0)).run Try.prog w = .ok x0 w := by kernel_rfl
theorem idxs_1 (x0 x1 x2 x3 x4 : Value) (w : World) : (Instr.index 91 (.agg #[x0, x1, x2, x3, x4]) (.int .i64 1)).run Try.prog w = .ok x1 w := by kernel_rfl
theorem idxs_2 (x0 x1 x2 x3 x4 : Value) (w : World) : (Instr.index 91 (.agg #[x0, x1, x2, x3, x4]) (.int .i64 2)).run Try.prog w = .ok x2 w := by kernel_rfl
theorem idxs_3 (x0 x1 x2 x3 x4 : Value) (w : World) : (Instr.index 91 (.agg #[x0, x1, x2, x3, x4]) (.int .i64 3)).run Try.prog w = .ok x3 w := by kernel_rfl
theorem idxs_4 (x0 x1 x2 x3 x4 : Value) (w : World) : (Instr.index 91 (.agg #[x0, x1, x2, x3, x4]) (.int .i64 4)).run Try.prog w = .ok x4 w := by kernel_rfl
set_option maxRecDepth 100000 in
set_option maxHeartbeats 1000000 in
theorem twrite_any (xc xs xv xr xi xo : Int) (hc : 0 ≤ xc ∧ xc ≤ 4294967295) (hin : inR xs ∧ inR xv ∧ inR xr ∧ inR xi ∧ inR xo) (B q : Nat) (L0 : List Fld) (hL0 : L0.length ≤ 9000) (w : World) (h : WF w B q L0) (hB : B ≤ q) (hBw : B ≤ w.heap.size) :
    Calls Try.prog 37 #[totV ⟨xc, xs, xv, xr, xi, xo⟩, (.pointer (some ⟨q, 0, none⟩))] w fun e w' => e = .returned (.tuple #[]) ∧ WF w' B q (L0 ++ totF ⟨xc, xs, xv, xr, xi, xo⟩) ∧ Below B w w' ∧ KeepsT WFK w w' := by
  have hal := (Below.refl w.heap.size w).alloc (Nat.le_refl _) (.cells #[.int .i64 xc, .int .i64 xs, .int .i64 xv, .int .i64 xr, .int .i64 xi, .int .i64 xo] 43)
  have EB := hide (heap_new w (.cells #[.int .i64 xc, .int .i64 xs, .int .i64 xv, .int .i64 xr, .int .i64 xi, .int .i64 xo] 43))
  have F0 := hide (h.below hal)
  have BL := hide ((Below.refl B w).alloc hBw (.cells #[.int .i64 xc, .int .i64 xs, .int .i64 xv, .int .i64 xr, .int .i64 xi, .int .i64 xo] 43))
  have KL := hide (KeepsT.of_below (Ts := WFK) hal)
  have HC := hide (fun W hW => wf_number B q L0 (by omega) xc hc.1 (by omega) 4 W hW hB)
  have HS := hide (fun Lk hk n (hn : inR n) W hW => wf_signed B q Lk hk n hn.1 hn.2 W hW hB)
  unfold WFIs at HC HS
  have HU := hide (fun W => sums_any xc xs xv xr xi xo W)
  have HI := hide hin
  have hu : IntKind.u64.wrap xc = xc := by rw [IntKind.wrap_u64]; omega
  clear hal hin h
  unfold totA at HU
  unfold totV
  dsimp only
  go_enter Try.func37, Try.ntmps37
  go_upto_region 1 with (fail)
  generalize w.alloc (.cells #[.int .i64 xc, .int .i64 xs, .int .i64 xv, .int .i64 xr, .int .i64 xi, .int .i64 xo] 43) = w1 at *
  obtain ⟨eb, heb⟩ : ∃ k, w.heap.size = k := ⟨_, rfl⟩
  rw [heb] at EB ⊢
  clear heb
  have e0 := cell_of_block EB.out 0
  go_wp2_with fail
  refine (HC.out _ F0.out).mono ?_
  rintro e w2 ⟨rfl, hw, hb, hk⟩
  have F2 := hide hw
  have EB2 := hide (hk.cells EB.out (by decide))
  have BL2 := hide (BL.out.trans hb)
  have KL2 := hide (KL.out.trans hk)
  clear hw hb hk e0 EB BL F0 KL
  obtain ⟨⟨e0, e1, e2, e3, e4, e5⟩, ⟨f0, f1, f2, f3, f4, f5⟩⟩ := six_facts EB2.out
  go_wp2_with fail
  refine (HU.out _).mono ?_
  rintro e w3 ⟨rfl, hb⟩
  have BL3 := hide (BL2.out.trans (hb.mono (by have := BL2.out.size; omega)))
  have F3 := hide (F2.out.below hb)
  have KL3 := hide (KL2.out.trans (KeepsT.of_below hb))
  clear hb e0 e1 e2 e3 e4 e5 f0 f1 f2 f3 f4 f5
  go_wp2_with fail
  have i0 := fun W => idxs_0 (.int .i64 xs) (.int .i64 xv) (.int .i64 xr) (.int .i64 xi) (.int .i64 xo) W
  have i1 := fun W => idxs_1 (.int .i64 xs) (.int .i64 xv) (.int .i64 xr) (.int .i64 xi) (.int .i64 xo) W
  have i2 := fun W => idxs_2 (.int .i64 xs) (.int .i64 xv) (.int .i64 xr) (.int .i64 xi) (.int .i64 xo) W
  have i3 := fun W => idxs_3 (.int .i64 xs) (.int .i64 xv) (.int .i64 xr) (.int .i64 xi) (.int .i64 xo) W
  have i4 := fun W => idxs_4 (.int .i64 xs) (.int .i64 xv) (.int .i64 xr) (.int .i64 xi) (.int .i64 xo) W
  have HT := hide (show ∀ k, k ≤ 5 → (L0 ++ totFk ⟨xc, xs, xv, xr, xi, xo⟩ k).length ≤ 9100 from fun k hk => by
    rw [List.length_append]
    unfold totFk totS
    rw [List.length_cons, List.length_map, List.length_take]
    omega)
  go_loopw [13] (fun i W => ∃ k : Nat, k ≤ 5 ∧ i = .int .i64 k ∧ WF W B q (L0 ++ totFk ⟨xc, xs, xv, xr, xi, xo⟩ k) ∧ Below B w W ∧ KeepsT WFK w W) (fun i _ => 5 - (intOf i).toNat)
  case atStart => exact ⟨0, by omega, rfl, F3.out, BL3.out, KL3.out⟩
  case round =>
    obtain ⟨k, hk, rfl, hw, hb, hkt⟩ := hrel
    have WR := hide hw
    have BR := hide hb
    have KR := hide hkt
    clear hw hb hkt F3 BL3 KL3 F2 BL2 KL2
    obtain rfl | rfl | rfl | rfl | rfl | rfl : k = 0 ∨ k = 1 ∨ k = 2 ∨ k = 3 ∨ k = 4 ∨ k = 5 := by omega
    iterate 5
      · go_wp2_with fail
        refine (HS.out _ (Nat.le_trans (HT.out _ (by omega)) (by omega)) _ (by first | exact HI.out.1 | exact HI.out.2.1 | exact HI.out.2.2.1 | exact HI.out.2.2.2.1 | exact HI.out.2.2.2.2) _ WR.out).mono ?_
        rintro e w4 ⟨rfl, hw, hb, hkt⟩
        have F4 := hide hw
        have BL4 := hide (BR.out.trans hb)
        have KL4 := hide (KR.out.trans hkt)
        clear hw hb hkt
        rw [List.append_assoc] at F4
        go_wp2_with fail
        go_roundw
        case rel => first | exact ⟨1, by omega, by go_num, F4.out, BL4.out, KL4.out⟩ | exact ⟨2, by omega, by go_num, F4.out, BL4.out, KL4.out⟩ | exact ⟨3, by omega, by go_num, F4.out, BL4.out, KL4.out⟩ | exact ⟨4, by omega, by go_num, F4.out, BL4.out, KL4.out⟩ | exact ⟨5, by omega, by go_num, F4.out, BL4.out, KL4.out⟩
        case measure => simp [intOf]
    · go_wp2_with fail
      go_end0
      exact ⟨rfl, WR.out, BR.out, KR.out⟩
set_option maxRecDepth 100000 in
set_option maxHeartbeats 1000000 in
theorem twrite_nil (xc xs xv xr xi xo : Int) (hc : 0 ≤ xc ∧ xc ≤ 4294967295) (hin : inR xs ∧ inR xv ∧ inR xr ∧ inR xi ∧ inR xo) (w : World) :
    Calls Try.prog 37 #[totV ⟨xc, xs, xv, xr, xi, xo⟩, (.pointer none)] w fun e w' => e = .returned (.tuple #[]) ∧ Below w.heap.size w w' := by
  have hal := (Below.refl w.heap.size w).alloc (Nat.le_refl _) (.cells #[.int .i64 xc, .int .i64 xs, .int .i64 xv, .int .i64 xr, .int .i64 xi, .int .i64 xo] 43)
  have EB := hide (heap_new w (.cells #[.int .i64 xc, .int .i64 xs, .int .i64 xv, .int .i64 xr, .int .i64 xi, .int .i64 xo] 43))
  have HC := hide (fun W => wnumber_nil xc hc.1 (by omega) 4 W)
  have HS := hide (fun n W => wsigned_nil n W)
  have BL := hide hal
  have HU := hide (fun W => sums_any xc xs xv xr xi xo W)
  have HI := hide hin
  have hu : IntKind.u64.wrap xc = xc := by rw [IntKind.wrap_u64]; omega
  clear hal hin
  unfold totA at HU
  unfold totV
  dsimp only
  go_enter Try.func37, Try.ntmps37
  go_upto_region 1 with (fail)
  generalize w.alloc (.cells #[.int .i64 xc, .int .i64 xs, .int .i64 xv, .int .i64 xr, .int .i64 xi, .int .i64 xo] 43) = w1 at *
  obtain ⟨eb, heb⟩ : ∃ k, w.heap.size = k := ⟨_, rfl⟩
  rw [heb] at EB ⊢
  clear heb
  have e0 := cell_of_block EB.out 0
  go_wp2_with fail
  refine (HC.out _).mono ?_
  rintro e w2 ⟨rfl, hb⟩
  have EB2 := hide ((hb.block _ (heap_lt EB.out)).trans EB.out)
  have BL2 := hide (BL.out.trans (hb.mono BL.out.size))
  clear hb e0 EB BL
  obtain ⟨⟨e0, e1, e2, e3, e4, e5⟩, ⟨f0, f1, f2, f3, f4, f5⟩⟩ := six_facts EB2.out
  go_wp2_with fail
  refine (HU.out _).mono ?_
  rintro e w3 ⟨rfl, hb⟩
  have BL3 := hide (BL2.out.trans (hb.mono BL2.out.size))
  clear hb e0 e1 e2 e3 e4 e5 f0 f1 f2 f3 f4 f5
  go_wp2_with fail
  have i0 := fun W => idxs_0 (.int .i64 xs) (.int .i64 xv) (.int .i64 xr) (.int .i64 xi) (.int .i64 xo) W
  have i1 := fun W => idxs_1 (.int .i64 xs) (.int .i64 xv) (.int .i64 xr) (.int .i64 xi) (.int .i64 xo) W
  have i2 := fun W => idxs_2 (.int .i64 xs) (.int .i64 xv) (.int .i64 xr) (.int .i64 xi) (.int .i64 xo) W
  have i3 := fun W => idxs_3 (.int .i64 xs) (.int .i64 xv) (.int .i64 xr) (.int .i64 xi) (.int .i64 xo) W
  have i4 := fun W => idxs_4 (.int .i64 xs) (.int .i64 xv) (.int .i64 xr) (.int .i64 xi) (.int .i64 xo) W
  go_loopw [13] (fun i W => ∃ k : Nat, k ≤ 5 ∧ i = .int .i64 k ∧ Below w.heap.size w W) (fun i _ => 5 - (intOf i).toNat)
  case atStart => exact ⟨0, by omega, rfl, BL3.out⟩
  case round =>
    obtain ⟨k, hk, rfl, hb⟩ := hrel
    have BR := hide hb
    clear hb BL3 BL2
    obtain rfl | rfl | rfl | rfl | rfl | rfl : k = 0 ∨ k = 1 ∨ k = 2 ∨ k = 3 ∨ k = 4 ∨ k = 5 := by omega
    iterate 5
      · go_wp2_with fail
        refine (HS.out _ _).mono ?_
        rintro e w4 ⟨rfl, hb⟩
        have BL4 := hide (BR.out.trans (hb.mono BR.out.size))
        clear hb
        go_wp2_with fail
        go_roundw
        case rel => first | exact ⟨1, by omega, by go_num, BL4.out⟩ | exact ⟨2, by omega, by go_num, BL4.out⟩ | exact ⟨3, by omega, by go_num, BL4.out⟩ | exact ⟨4, by omega, by go_num, BL4.out⟩ | exact ⟨5, by omega, by go_num, BL4.out⟩
        case measure => simp [intOf]
    · go_wp2_with fail
      go_end0
      exact ⟨rfl, BR.out⟩
end Go.Proofs.Ytfdgfeohmkdnoaa

/-
  Layer 26: Write of shifts by contract.
-/
--import Derived.Test.Zdbg
namespace Go.Proofs.Ytfdgfeohmkdnoaa
set_option linter.unusedSimpArgs false
set_option linter.unusedVariables false
open Go.RowKit Go.WideShapes Go.ChangeShapes Go.ChangeAt Go.Deep
set_option maxRecDepth 100000 in
set_option maxHeartbeats 2000000 in
theorem shwrite_any (B p : Nat) (M : ShM) (V : Value) (q : Nat) (L0 : List Fld) (hL0 : L0.length ≤ 8000) (w0 w : World) (hC : ShIs w0 B p M V) (hlow : Below w0.heap.size w0 w) (hW : WF w w0.heap.size q L0) (hB : w0.heap.size ≤ q) :
    Calls Try.prog 18 #[.pointer (some ⟨p, 0, none⟩), .pointer (some ⟨q, 0, none⟩)] w fun e w' => e = .returned (.tuple #[]) ∧ WF w' w0.heap.size q (L0 ++ shF M) ∧ Below w0.heap.size w0 w' ∧ KeepsT WFK w w' := by
  have C0 := hide hC
  have B0 := hide hlow
  have FF0 := hide hW
  have HBQ := hide hB
  have HM := hide (fun m (h : m < M.L.length) => shFk_next M m h)
  have HFL := hide (fun m (h : m ≤ M.L.length) (h64 : M.L.length ≤ 64) => shFk_len M m h h64)
  have HALL := hide (shFk_all M)
  clear hC hlow hW hB
  obtain ⟨keep, next, op, ⟨xc, xs, xv, xr, xi, xo⟩, L⟩ := M
  have hnx : 1 ≤ next ∧ next ≤ 4294967296 := C0.out.ok.nx
  have hkp : 1 ≤ keep ∧ keep ≤ 64 := C0.out.ok.kp
  have hfw : (L.length : Int) ≤ keep := C0.out.ok.few
  have HNO := hide (show TotOk ⟨xc, xs, xv, xr, xi, xo⟩ from C0.out.ok.now)
  have HLO := hide (show ∀ t ∈ L, TotOk t from C0.out.ok.L)
  obtain ⟨a, cp, rfl⟩ := owns_split C0.out.row
  have hu1 : IntKind.u64.wrap next = next := by rw [IntKind.wrap_u64]; omega
  have hu2 : IntKind.u64.wrap (L.length : Int) = (L.length : Int) := by rw [IntKind.wrap_u64]; omega
  obtain ⟨ov, hov, hov2⟩ : ∃ ov : Int, (if op = true then (1 : Int) else 0) = ov ∧ (ov = 0 ∨ ov = 1) := ⟨_, rfl, by cases op <;> simp⟩
  have HOV := hide hov
  have HC1 := hide (fun W hW => wf_number w0.heap.size q L0 (by omega) next (by omega) (by omega) 5 W hW HBQ.out)
  have HC2 := hide (fun W hW => wf_number w0.heap.size q (L0 ++ [⟨0, 5, next, ⟨#[]⟩⟩]) (by rw [List.length_append]; simp; omega) ov (by omega) (by omega) 1 W hW HBQ.out)
  have HC3 := hide (fun W hW => wf_number w0.heap.size q (L0 ++ [⟨0, 5, next, ⟨#[]⟩⟩] ++ [⟨0, 1, ov, ⟨#[]⟩⟩]) (by rw [List.length_append, List.length_append]; simp; omega) (L.length : Int) (by omega) (by omega) 1 W hW HBQ.out)
  unfold WFIs at HC1 HC2 HC3
  have N0w := hide (show w.heap[p]? = some (.cells #[.int .i64 keep, .int .i64 next, .bool op, .int .i64 xc, .int .i64 xs, .int .i64 xv, .int .i64 xr, .int .i64 xi, .int .i64 xo, .slice a L.length cp] 86 (0, 0)) from (B0.out.block _ C0.out.lt).trans C0.out.head)
  have HRW := hide (fun W (hb : Below w0.heap.size w0 W) => (show W.ownsRow B 43 6 (.slice a L.length cp) L.length (L.flatMap totC) from owns_below C0.out.row hb))
  have HPL := hide C0.out.lt
  clear hov hov2
  have e2 := cell_of_block N0w.out 2
  have hpl := heap_lt N0w.out
  go_enter Try.func18, Try.ntmps18
  go_upto_if 12 with (fail)
  go_cut [4] from 13 to 51 (fun s4 W => s4 = .int .u64 ov ∧ W = w)
  case first =>
    cases op with
    | true =>
      have := HOV.out
      rw [if_pos rfl] at this
      go_wp2_with fail
      go_meet
      exact ⟨by rw [← this], rfl⟩
    | false =>
      have := HOV.out
      rw [if_neg (by decide)] at this
      go_wp2_with fail
      go_meet
      exact ⟨by rw [← this], rfl⟩
  case rest =>
  obtain ⟨rfl, rfl⟩ := hcut
  clear e2 hpl
  go_upto_region 4 with (fail)
  have N0 := hide (show wc.drew.heap[p]? = some (.cells #[.int .i64 keep, .int .i64 next, .bool op, .int .i64 xc, .int .i64 xs, .int .i64 xv, .int .i64 xr, .int .i64 xi, .int .i64 xo, .slice a L.length cp] 86 (0, 0)) from N0w.out)
  have BF0 := hide (show Below w0.heap.size w0 wc.drew from B0.out.drew)
  have F0 := hide (show WF wc.drew w0.heap.size q L0 from FF0.out.drew)
  have BFF0 := hide (show Below w0.heap.size w0 wc.drew from B0.out.drew)
  have KF0 := hide (show KeepsT WFK wc wc.drew from fun k o h _ => h)
  clear N0w FF0
  refine wp_region_held_drew (S := (fun W => W.heap[p]? = some (.cells #[.int .i64 keep, .int .i64 next, .bool op, .int .i64 xc, .int .i64 xs, .int .i64 xv, .int .i64 xr, .int .i64 xi, .int .i64 xo, .slice a L.length cp] 86 (0, 0)))) (by kernel_rfl) (N0.out) (fun hHeld => ?_)
  refine wpAnyH_take (i := 0) (oi := { dst := some 13, op := Op.move (Operand.tmp 1), type := 58, pos := "shift.go:195", after := #[], guard := none }) (v := ?_) rfl (by kernel_rfl) (by kernel_rfl) (by kernel_rfl) (fun _ _ _ h => h) (Or.inl ⟨by kernel_rfl, ?_⟩) hHeld ?_
  rotate_left
  · (intro w hSw; (try dsimp only at hSw); have e1 := cell_of_block hSw 1; have e2 := cell_of_block hSw 2; have e9 := cell_of_block hSw 9; go_simp); try with_reducible rfl
  try simp only [Act.put, List.setIfInBounds_toArray, List.set_cons_zero, List.set_cons_succ]
  refine wpAnyH_take (i := 1) (oi := { dst := some 14, op := Op.move (Operand.tmp 0), type := 23, pos := "shift.go:195", after := #[], guard := none }) (v := ?_) rfl (by kernel_rfl) (by kernel_rfl) (by kernel_rfl) (fun _ _ _ h => h) (Or.inl ⟨by kernel_rfl, ?_⟩) hHeld ?_
  rotate_left
  · (intro w hSw; (try dsimp only at hSw); have e1 := cell_of_block hSw 1; have e2 := cell_of_block hSw 2; have e9 := cell_of_block hSw 9; go_simp); try with_reducible rfl
  try simp only [Act.put, List.setIfInBounds_toArray, List.set_cons_zero, List.set_cons_succ]
  refine wpAnyH_take (i := 2) (oi := { dst := some 15, op := Op.nilCheck (Operand.tmp 14), type := 0, pos := "shift.go:195", after := #[{ on := 1, ground := Ground.data }], guard := none }) (v := ?_) rfl (by kernel_rfl) (by kernel_rfl) (by kernel_rfl) (fun _ _ _ h => h) (Or.inl ⟨by kernel_rfl, ?_⟩) hHeld ?_
  rotate_left
  · (intro w hSw; (try dsimp only at hSw); have e1 := cell_of_block hSw 1; have e2 := cell_of_block hSw 2; have e9 := cell_of_block hSw 9; go_simp); try with_reducible rfl
  try simp only [Act.put, List.setIfInBounds_toArray, List.set_cons_zero, List.set_cons_succ]
  refine wpAnyH_take (i := 3) (oi := { dst := some 16, op := Op.fieldAddr 86 (Operand.tmp 15) 1, type := 0, pos := "shift.go:195", after := #[{ on := 2, ground := Ground.data }], guard := none }) (v := ?_) rfl (by kernel_rfl) (by kernel_rfl) (by kernel_rfl) (fun _ _ _ h => h) (Or.inl ⟨by kernel_rfl, ?_⟩) hHeld ?_
  rotate_left
  · (intro w hSw; (try dsimp only at hSw); have e1 := cell_of_block hSw 1; have e2 := cell_of_block hSw 2; have e9 := cell_of_block hSw 9; go_simp); try with_reducible rfl
  try simp only [Act.put, List.setIfInBounds_toArray, List.set_cons_zero, List.set_cons_succ]
  refine wpAnyH_take (i := 4) (oi := { dst := some 17, op := Op.load 3 (Operand.tmp 16), type := 3, pos := "shift.go:195", after := #[{ on := 3, ground := Ground.data }], guard := none }) (v := ?_) rfl (by kernel_rfl) (by kernel_rfl) (by kernel_rfl) (fun _ _ _ h => h) (Or.inl ⟨by kernel_rfl, ?_⟩) hHeld ?_
  rotate_left
  · (intro w hSw; (try dsimp only at hSw); have e1 := cell_of_block hSw 1; have e2 := cell_of_block hSw 2; have e9 := cell_of_block hSw 9; go_simp); try with_reducible rfl
  try simp only [Act.put, List.setIfInBounds_toArray, List.set_cons_zero, List.set_cons_succ]
  refine wpAnyH_take (i := 5) (oi := { dst := some 18, op := Op.convert 3 95 (Operand.tmp 17), type := 95, pos := "shift.go:195", after := #[{ on := 4, ground := Ground.data }], guard := none }) (v := ?_) rfl (by kernel_rfl) (by kernel_rfl) (by kernel_rfl) (fun _ _ _ h => h) (Or.inl ⟨by kernel_rfl, ?_⟩) hHeld ?_
  rotate_left
  · (intro w hSw; (try dsimp only at hSw); have e1 := cell_of_block hSw 1; have e2 := cell_of_block hSw 2; have e9 := cell_of_block hSw 9; go_simp); try with_reducible rfl
  try simp only [Act.put, List.setIfInBounds_toArray, List.set_cons_zero, List.set_cons_succ]
  refine wpAnyH_take (i := 7) (oi := { dst := some 20, op := Op.move (Operand.tmp 4), type := 95, pos := "shift.go:195", after := #[], guard := none }) (v := ?_) rfl (by kernel_rfl) (by kernel_rfl) (by kernel_rfl) (fun _ _ _ h => h) (Or.inl ⟨by kernel_rfl, ?_⟩) hHeld ?_
  rotate_left
  · (intro w hSw; (try dsimp only at hSw); have e1 := cell_of_block hSw 1; have e2 := cell_of_block hSw 2; have e9 := cell_of_block hSw 9; go_simp); try with_reducible rfl
  try simp only [Act.put, List.setIfInBounds_toArray, List.set_cons_zero, List.set_cons_succ]
  refine wpAnyH_take (i := 9) (oi := { dst := some 22, op := Op.move (Operand.tmp 0), type := 23, pos := "shift.go:195", after := #[], guard := none }) (v := ?_) rfl (by kernel_rfl) (by kernel_rfl) (by kernel_rfl) (fun _ _ _ h => h) (Or.inl ⟨by kernel_rfl, ?_⟩) hHeld ?_
  rotate_left
  · (intro w hSw; (try dsimp only at hSw); have e1 := cell_of_block hSw 1; have e2 := cell_of_block hSw 2; have e9 := cell_of_block hSw 9; go_simp); try with_reducible rfl
  try simp only [Act.put, List.setIfInBounds_toArray, List.set_cons_zero, List.set_cons_succ]
  refine wpAnyH_take (i := 10) (oi := { dst := some 23, op := Op.nilCheck (Operand.tmp 22), type := 0, pos := "shift.go:195", after := #[{ on := 9, ground := Ground.data }], guard := none }) (v := ?_) rfl (by kernel_rfl) (by kernel_rfl) (by kernel_rfl) (fun _ _ _ h => h) (Or.inl ⟨by kernel_rfl, ?_⟩) hHeld ?_
  rotate_left
  · (intro w hSw; (try dsimp only at hSw); have e1 := cell_of_block hSw 1; have e2 := cell_of_block hSw 2; have e9 := cell_of_block hSw 9; go_simp); try with_reducible rfl
  try simp only [Act.put, List.setIfInBounds_toArray, List.set_cons_zero, List.set_cons_succ]
  refine wpAnyH_take (i := 11) (oi := { dst := some 24, op := Op.fieldAddr 86 (Operand.tmp 23) 4, type := 0, pos := "shift.go:195", after := #[{ on := 10, ground := Ground.data }], guard := none }) (v := ?_) rfl (by kernel_rfl) (by kernel_rfl) (by kernel_rfl) (fun _ _ _ h => h) (Or.inl ⟨by kernel_rfl, ?_⟩) hHeld ?_
  rotate_left
  · (intro w hSw; (try dsimp only at hSw); have e1 := cell_of_block hSw 1; have e2 := cell_of_block hSw 2; have e9 := cell_of_block hSw 9; go_simp); try with_reducible rfl
  try simp only [Act.put, List.setIfInBounds_toArray, List.set_cons_zero, List.set_cons_succ]
  refine wpAnyH_take (i := 12) (oi := { dst := some 25, op := Op.load 84 (Operand.tmp 24), type := 84, pos := "shift.go:195", after := #[{ on := 11, ground := Ground.data }], guard := none }) (v := ?_) rfl (by kernel_rfl) (by kernel_rfl) (by kernel_rfl) (fun _ _ _ h => h) (Or.inl ⟨by kernel_rfl, ?_⟩) hHeld ?_
  rotate_left
  · (intro w hSw; (try dsimp only at hSw); have e1 := cell_of_block hSw 1; have e2 := cell_of_block hSw 2; have e9 := cell_of_block hSw 9; go_simp); try with_reducible rfl
  try simp only [Act.put, List.setIfInBounds_toArray, List.set_cons_zero, List.set_cons_succ]
  refine wpAnyH_take (i := 13) (oi := { dst := some 26, op := Op.call { callee := Callee.builtin Builtin.len, args := #[Operand.tmp 25], argTypes := #[84] }, type := 3, pos := "shift.go:195", after := #[{ on := 12, ground := Ground.data }], guard := none }) (v := ?_) rfl (by kernel_rfl) (by kernel_rfl) (by kernel_rfl) (fun _ _ _ h => h) (Or.inl ⟨by kernel_rfl, ?_⟩) hHeld ?_
  rotate_left
  · (intro w hSw; (try dsimp only at hSw); have e1 := cell_of_block hSw 1; have e2 := cell_of_block hSw 2; have e9 := cell_of_block hSw 9; go_simp); try with_reducible rfl
  try simp only [Act.put, List.setIfInBounds_toArray, List.set_cons_zero, List.set_cons_succ]
  refine wpAnyH_take (i := 14) (oi := { dst := some 27, op := Op.convert 3 95 (Operand.tmp 26), type := 95, pos := "shift.go:195", after := #[{ on := 13, ground := Ground.data }], guard := none }) (v := ?_) rfl (by kernel_rfl) (by kernel_rfl) (by kernel_rfl) (fun _ _ _ h => h) (Or.inl ⟨by kernel_rfl, ?_⟩) hHeld ?_
  rotate_left
  · (intro w hSw; (try dsimp only at hSw); have e1 := cell_of_block hSw 1; have e2 := cell_of_block hSw 2; have e9 := cell_of_block hSw 9; go_simp); try with_reducible rfl
  try simp only [Act.put, List.setIfInBounds_toArray, List.set_cons_zero, List.set_cons_succ]
  refine wpAnyH_ready (rs := [6]) (by kernel_rfl) (by simp) ?_
  refine AllReadyH.cons (o := { dst := some 19, op := Op.call { callee := Callee.value (Operand.func 36), args := #[Operand.tmp 13, Operand.tmp 18, Operand.const (Value.int IntKind.i64 5)], argTypes := #[58, 95, 3] }, type := 58, pos := "shift.go:195", after := #[{ on := 0, ground := Ground.data }, { on := 5, ground := Ground.data }], guard := none }) rfl (fun K hK => ?_) AllReadyH.nil
  have hOld := hide hHeld
  clear hHeld
  go_simp
  refine (HC1.out _ F0.out).mono ?_
  rintro e v1 ⟨rfl, hw, hb, hk⟩
  have F1 := hide hw
  have BFF1 := hide (BFF0.out.trans hb)
  have KF1 := hide (KF0.out.trans hk)
  clear hw hb
  (try go_wp2_with fail)
  refine hK.out _ _ (hk.cells hOld.out (by decide)) (fun hHeld => ?_)
  clear hK K hOld
  try simp only [Act.put, List.setIfInBounds_toArray, List.set_cons_zero, List.set_cons_succ]
  refine wpAnyH_ready (rs := [8]) (by kernel_rfl) (by simp) ?_
  refine AllReadyH.cons (o := { dst := some 21, op := Op.call { callee := Callee.value (Operand.func 36), args := #[Operand.tmp 19, Operand.tmp 20, Operand.const (Value.int IntKind.i64 1)], argTypes := #[58, 95, 3] }, type := 58, pos := "shift.go:195", after := #[{ on := 6, ground := Ground.data }, { on := 7, ground := Ground.data }, { on := 6, ground := Ground.chain }], guard := none }) rfl (fun K hK => ?_) AllReadyH.nil
  have hOld := hide hHeld
  clear hHeld
  go_simp
  refine (HC2.out _ F1.out).mono ?_
  rintro e v2 ⟨rfl, hw, hb, hk⟩
  have F2 := hide hw
  have BFF2 := hide (BFF1.out.trans hb)
  have KF2 := hide (KF1.out.trans hk)
  clear hw hb
  (try go_wp2_with fail)
  refine hK.out _ _ (hk.cells hOld.out (by decide)) (fun hHeld => ?_)
  clear hK K hOld
  try simp only [Act.put, List.setIfInBounds_toArray, List.set_cons_zero, List.set_cons_succ]
  refine wpAnyH_ready (rs := [15]) (by kernel_rfl) (by simp) ?_
  refine AllReadyH.cons (o := { dst := some 28, op := Op.call { callee := Callee.value (Operand.func 36), args := #[Operand.tmp 21, Operand.tmp 27, Operand.const (Value.int IntKind.i64 1)], argTypes := #[58, 95, 3] }, type := 58, pos := "shift.go:195", after := #[{ on := 8, ground := Ground.data }, { on := 14, ground := Ground.data }, { on := 8, ground := Ground.chain }], guard := none }) rfl (fun K hK => ?_) AllReadyH.nil
  have hOld := hide hHeld
  clear hHeld
  go_simp
  refine (HC3.out _ F2.out).mono ?_
  rintro e v3 ⟨rfl, hw, hb, hk⟩
  have F3 := hide hw
  have BFF3 := hide (BFF2.out.trans hb)
  have KF3 := hide (KF2.out.trans hk)
  clear hw hb
  (try go_wp2_with fail)
  refine hK.out _ _ (hk.cells hOld.out (by decide)) (fun hHeld => ?_)
  clear hK K hOld
  try simp only [Act.put, List.setIfInBounds_toArray, List.set_cons_zero, List.set_cons_succ]
  refine wpAnyH_done (by kernel_rfl) ?_ _
  have N3 := hide hHeld
  clear hHeld N0 F0 F1 F2 BFF0 BFF1 BFF2 KF0 KF1 KF2 HC1 HC2 HC3 hu1 hu2
  obtain ⟨w3, hw3⟩ : ∃ w3 : World, w3 = v3 := ⟨_, rfl⟩
  rw [← hw3] at N3 F3 BFF3 KF3 ⊢
  clear hw3
  have HSH := hide (show shH ⟨keep, next, op, ⟨xc, xs, xv, xr, xi, xo⟩, L⟩ = [⟨0, 5, next, ⟨#[]⟩⟩] ++ [⟨0, 1, ov, ⟨#[]⟩⟩] ++ [⟨0, 1, (L.length : Int), ⟨#[]⟩⟩] from by rw [← HOV.out]; rfl)
  have F4 := hide (show WF w3 w0.heap.size q (L0 ++ shFk ⟨keep, next, op, ⟨xc, xs, xv, xr, xi, xo⟩, L⟩ 0) from by
    rw [shFk_zero, HSH.out, ← List.append_assoc, ← List.append_assoc]
    exact F3.out)
  (try dsimp only at HM)
  (try dsimp only at HFL)
  (try dsimp only at HALL)
  obtain ⟨fk, hfk⟩ : ∃ f, shFk ⟨keep, next, op, ⟨xc, xs, xv, xr, xi, xo⟩, L⟩ = f := ⟨_, rfl⟩
  rw [hfk] at F4 HM HFL HALL
  have HFK := hide hfk
  clear hfk F3
  have c9 := cell_of_block N3.out 9
  go_wp2_with fail
  clear c9
  go_loopw [34] (fun i W => ∃ m : Nat, m ≤ L.length ∧ i = .int .i64 m ∧ WF W w0.heap.size q (L0 ++ fk m) ∧ Below w0.heap.size w0 W ∧ KeepsT WFK wc W) (fun i _ => L.length - (intOf i).toNat)
  case atStart => exact ⟨0, by omega, rfl, F4.out, BFF3.out, KF3.out⟩
  case round =>
    obtain ⟨m, hm, rfl, hw, hb, hk⟩ := hrel
    have FR := hide hw
    have BR := hide hb
    have KR := hide hk
    clear hw hb hk N3 F4 BFF3 KF3
    have NR := hide ((BR.out.block _ HPL.out).trans C0.out.head)
    have HLN := hide (show (L0 ++ fk m).length ≤ 9000 from by rw [List.length_append]; have := HFL.out m hm (by omega); omega)
    by_cases hlt : m < L.length
    · obtain ⟨gg, rfl, -, hgl, hcell⟩ := owns_rows totC totC_length tot0 (HRW.out _ BR.out) m hlt
      have HT := hide (HLO.out (L.getD m tot0) (by simp [List.getD, hlt]))
      have HNX := hide (HM.out m hlt)
      have y0 := hcell 0 (by decide)
      have y1 := hcell 1 (by decide)
      have y2 := hcell 2 (by decide)
      have y3 := hcell 3 (by decide)
      have y4 := hcell 4 (by decide)
      have y5 := hcell 5 (by decide)
      generalize L.getD m tot0 = yy at *
      obtain ⟨yc, ys, yv, yr, yi, yo⟩ := yy
      simp only [totC, List.getElem?_cons_zero, List.getElem?_cons_succ, Nat.add_zero] at y0 y1 y2 y3 y4 y5
      clear hcell
      have HTW := hide (fun W hW hbw => twrite_any yc ys yv yr yi yo HT.out.c HT.out.ins w0.heap.size q (L0 ++ fk m) HLN.out W hW HBQ.out hbw)
      unfold totV at HTW
      dsimp only at HTW
      have hal := (Below.refl wr.heap.size wr).alloc (Nat.le_refl _) (.cells #[.int .i64 yc, .int .i64 ys, .int .i64 yv, .int .i64 yr, .int .i64 yi, .int .i64 yo] 43)
      have XN := hide (heap_new wr (.cells #[.int .i64 yc, .int .i64 ys, .int .i64 yv, .int .i64 yr, .int .i64 yi, .int .i64 yo] 43))
      have F5 := hide (FR.out.below hal)
      have B5 := hide (BR.out.trans (hal.mono BR.out.size))
      have K5 := hide (KR.out.trans (KeepsT.of_below hal))
      clear hal
      go_upto_region 8 with (fail)
      clear y0 y1 y2 y3 y4 y5
      generalize wr.alloc (.cells #[.int .i64 yc, .int .i64 ys, .int .i64 yv, .int .i64 yr, .int .i64 yi, .int .i64 yo] 43) = w5 at *
      generalize wr.heap.size = nb at *
      obtain ⟨⟨g0, g1, g2, g3, g4, g5⟩, -⟩ := six_facts XN.out
      go_wp2_with fail
      refine (HTW.out _ F5.out B5.out.size).mono ?_
      rintro e w6 ⟨rfl, hw, hb, hk⟩
      have F6 := hide hw
      have B6 := hide (B5.out.trans hb)
      have K6 := hide (K5.out.trans hk)
      clear hw hb hk g0 g1 g2 g3 g4 g5
      go_wp2_with fail
      go_roundw
      case rel => exact ⟨m + 1, hlt, by go_num, by rw [HNX.out, ← List.append_assoc]; exact F6.out, B6.out, K6.out⟩
      case measure => simp [intOf]; omega
    · obtain rfl : m = L.length := by omega
      have FA := hide (show WF wr w0.heap.size q (L0 ++ (shH ⟨keep, next, op, ⟨xc, xs, xv, xr, xi, xo⟩, L⟩ ++ L.flatMap totF)) from by rw [← HALL.out]; exact FR.out)
      have HLA := hide (show (L0 ++ (shH ⟨keep, next, op, ⟨xc, xs, xv, xr, xi, xo⟩, L⟩ ++ L.flatMap totF)).length ≤ 9000 from by rw [← HALL.out]; exact HLN.out)
      obtain ⟨⟨c0, c1, c2, c3, c4, c5, c6, c7, c8, c9⟩, -⟩ := sh_facts NR.out
      cases op with
      | true =>
        have HTW := hide (fun W hW hbw => twrite_any xc xs xv xr xi xo HNO.out.c HNO.out.ins w0.heap.size q _ HLA.out W hW HBQ.out hbw)
        unfold totV at HTW
        dsimp only at HTW
        dsimp only at c0 c1 c2 c3 c4 c5 c6 c7 c8 c9
        go_wp2_with fail
        refine (HTW.out _ FA.out BR.out.size).mono ?_
        rintro e w6 ⟨rfl, hw, hb, hk⟩
        have F6 := hide hw
        have B6 := hide (BR.out.trans hb)
        have K6 := hide (KR.out.trans hk)
        clear hw hb hk
        go_wp2_with fail
        go_end0
        refine ⟨rfl, ?_, B6.out, K6.out⟩
        rw [shF_open rfl, ← List.append_assoc]
        exact F6.out
      | false =>
        go_wp2_with fail
        go_end0
        refine ⟨rfl, ?_, BR.out, KR.out⟩
        rw [shF_shut rfl]
        exact FA.out
set_option maxRecDepth 100000 in
set_option maxHeartbeats 2000000 in
theorem shwrite_nil (B p : Nat) (M : ShM) (V : Value) (w : World) (hC : ShIs w B p M V) :
    Calls Try.prog 18 #[.pointer (some ⟨p, 0, none⟩), .pointer none] w fun e w' => e = .returned (.tuple #[]) ∧ Below w.heap.size w w' := by
  have C0 := hide hC
  have B0 := hide (Below.refl w.heap.size w)
  clear hC
  obtain ⟨keep, next, op, ⟨xc, xs, xv, xr, xi, xo⟩, L⟩ := M
  have hnx : 1 ≤ next ∧ next ≤ 4294967296 := C0.out.ok.nx
  have hkp : 1 ≤ keep ∧ keep ≤ 64 := C0.out.ok.kp
  have hfw : (L.length : Int) ≤ keep := C0.out.ok.few
  have HNO := hide (show TotOk ⟨xc, xs, xv, xr, xi, xo⟩ from C0.out.ok.now)
  have HLO := hide (show ∀ t ∈ L, TotOk t from C0.out.ok.L)
  obtain ⟨a, cp, rfl⟩ := owns_split C0.out.row
  have hu1 : IntKind.u64.wrap next = next := by rw [IntKind.wrap_u64]; omega
  have hu2 : IntKind.u64.wrap (L.length : Int) = (L.length : Int) := by rw [IntKind.wrap_u64]; omega
  obtain ⟨ov, hov, hov2⟩ : ∃ ov : Int, (if op = true then (1 : Int) else 0) = ov ∧ (ov = 0 ∨ ov = 1) := ⟨_, rfl, by cases op <;> simp⟩
  have HOV := hide hov
  have HC1 := hide (fun W => wnumber_nil next (by omega) (by omega) 5 W)
  have HC2 := hide (fun W => wnumber_nil ov (by omega) (by omega) 1 W)
  have HC3 := hide (fun W => wnumber_nil (L.length : Int) (by omega) (by omega) 1 W)
  have N0w := hide (show w.heap[p]? = some (.cells #[.int .i64 keep, .int .i64 next, .bool op, .int .i64 xc, .int .i64 xs, .int .i64 xv, .int .i64 xr, .int .i64 xi, .int .i64 xo, .slice a L.length cp] 86 (0, 0)) from C0.out.head)
  have HRW := hide (fun W (hb : Below w.heap.size w W) => (show W.ownsRow B 43 6 (.slice a L.length cp) L.length (L.flatMap totC) from owns_below C0.out.row hb))
  have HPL := hide C0.out.lt
  clear hov hov2
  have e2 := cell_of_block N0w.out 2
  have hpl := heap_lt N0w.out
  go_enter Try.func18, Try.ntmps18
  go_upto_if 12 with (fail)
  go_cut [4] from 13 to 51 (fun s4 W => s4 = .int .u64 ov ∧ W = w)
  case first =>
    cases op with
    | true =>
      have := HOV.out
      rw [if_pos rfl] at this
      go_wp2_with fail
      go_meet
      exact ⟨by rw [← this], rfl⟩
    | false =>
      have := HOV.out
      rw [if_neg (by decide)] at this
      go_wp2_with fail
      go_meet
      exact ⟨by rw [← this], rfl⟩
  case rest =>
  obtain ⟨rfl, rfl⟩ := hcut
  clear e2 hpl
  go_upto_region 4 with (fail)
  have N0 := hide (show wc.drew.heap[p]? = some (.cells #[.int .i64 keep, .int .i64 next, .bool op, .int .i64 xc, .int .i64 xs, .int .i64 xv, .int .i64 xr, .int .i64 xi, .int .i64 xo, .slice a L.length cp] 86 (0, 0)) from N0w.out)
  have BF0 := hide (show Below wc.heap.size wc wc.drew from B0.out.drew)
  clear N0w
  refine wp_region_held_drew (S := (fun W => W.heap[p]? = some (.cells #[.int .i64 keep, .int .i64 next, .bool op, .int .i64 xc, .int .i64 xs, .int .i64 xv, .int .i64 xr, .int .i64 xi, .int .i64 xo, .slice a L.length cp] 86 (0, 0)) ∧ Below wc.heap.size wc W)) (by kernel_rfl) (⟨N0.out, BF0.out⟩) (fun hHeld => ?_)
  refine wpAnyH_take (i := 0) (oi := { dst := some 13, op := Op.move (Operand.tmp 1), type := 58, pos := "shift.go:195", after := #[], guard := none }) (v := ?_) rfl (by kernel_rfl) (by kernel_rfl) (by kernel_rfl) (fun _ _ _ h => h) (Or.inl ⟨by kernel_rfl, ?_⟩) hHeld ?_
  rotate_left
  · (intro w hSw; (try dsimp only at hSw); have e1 := cell_of_block hSw.1 1; have e2 := cell_of_block hSw.1 2; have e9 := cell_of_block hSw.1 9; go_simp); try with_reducible rfl
  try simp only [Act.put, List.setIfInBounds_toArray, List.set_cons_zero, List.set_cons_succ]
  refine wpAnyH_take (i := 1) (oi := { dst := some 14, op := Op.move (Operand.tmp 0), type := 23, pos := "shift.go:195", after := #[], guard := none }) (v := ?_) rfl (by kernel_rfl) (by kernel_rfl) (by kernel_rfl) (fun _ _ _ h => h) (Or.inl ⟨by kernel_rfl, ?_⟩) hHeld ?_
  rotate_left
  · (intro w hSw; (try dsimp only at hSw); have e1 := cell_of_block hSw.1 1; have e2 := cell_of_block hSw.1 2; have e9 := cell_of_block hSw.1 9; go_simp); try with_reducible rfl
  try simp only [Act.put, List.setIfInBounds_toArray, List.set_cons_zero, List.set_cons_succ]
  refine wpAnyH_take (i := 2) (oi := { dst := some 15, op := Op.nilCheck (Operand.tmp 14), type := 0, pos := "shift.go:195", after := #[{ on := 1, ground := Ground.data }], guard := none }) (v := ?_) rfl (by kernel_rfl) (by kernel_rfl) (by kernel_rfl) (fun _ _ _ h => h) (Or.inl ⟨by kernel_rfl, ?_⟩) hHeld ?_
  rotate_left
  · (intro w hSw; (try dsimp only at hSw); have e1 := cell_of_block hSw.1 1; have e2 := cell_of_block hSw.1 2; have e9 := cell_of_block hSw.1 9; go_simp); try with_reducible rfl
  try simp only [Act.put, List.setIfInBounds_toArray, List.set_cons_zero, List.set_cons_succ]
  refine wpAnyH_take (i := 3) (oi := { dst := some 16, op := Op.fieldAddr 86 (Operand.tmp 15) 1, type := 0, pos := "shift.go:195", after := #[{ on := 2, ground := Ground.data }], guard := none }) (v := ?_) rfl (by kernel_rfl) (by kernel_rfl) (by kernel_rfl) (fun _ _ _ h => h) (Or.inl ⟨by kernel_rfl, ?_⟩) hHeld ?_
  rotate_left
  · (intro w hSw; (try dsimp only at hSw); have e1 := cell_of_block hSw.1 1; have e2 := cell_of_block hSw.1 2; have e9 := cell_of_block hSw.1 9; go_simp); try with_reducible rfl
  try simp only [Act.put, List.setIfInBounds_toArray, List.set_cons_zero, List.set_cons_succ]
  refine wpAnyH_take (i := 4) (oi := { dst := some 17, op := Op.load 3 (Operand.tmp 16), type := 3, pos := "shift.go:195", after := #[{ on := 3, ground := Ground.data }], guard := none }) (v := ?_) rfl (by kernel_rfl) (by kernel_rfl) (by kernel_rfl) (fun _ _ _ h => h) (Or.inl ⟨by kernel_rfl, ?_⟩) hHeld ?_
  rotate_left
  · (intro w hSw; (try dsimp only at hSw); have e1 := cell_of_block hSw.1 1; have e2 := cell_of_block hSw.1 2; have e9 := cell_of_block hSw.1 9; go_simp); try with_reducible rfl
  try simp only [Act.put, List.setIfInBounds_toArray, List.set_cons_zero, List.set_cons_succ]
  refine wpAnyH_take (i := 5) (oi := { dst := some 18, op := Op.convert 3 95 (Operand.tmp 17), type := 95, pos := "shift.go:195", after := #[{ on := 4, ground := Ground.data }], guard := none }) (v := ?_) rfl (by kernel_rfl) (by kernel_rfl) (by kernel_rfl) (fun _ _ _ h => h) (Or.inl ⟨by kernel_rfl, ?_⟩) hHeld ?_
  rotate_left
  · (intro w hSw; (try dsimp only at hSw); have e1 := cell_of_block hSw.1 1; have e2 := cell_of_block hSw.1 2; have e9 := cell_of_block hSw.1 9; go_simp); try with_reducible rfl
  try simp only [Act.put, List.setIfInBounds_toArray, List.set_cons_zero, List.set_cons_succ]
  refine wpAnyH_take (i := 7) (oi := { dst := some 20, op := Op.move (Operand.tmp 4), type := 95, pos := "shift.go:195", after := #[], guard := none }) (v := ?_) rfl (by kernel_rfl) (by kernel_rfl) (by kernel_rfl) (fun _ _ _ h => h) (Or.inl ⟨by kernel_rfl, ?_⟩) hHeld ?_
  rotate_left
  · (intro w hSw; (try dsimp only at hSw); have e1 := cell_of_block hSw.1 1; have e2 := cell_of_block hSw.1 2; have e9 := cell_of_block hSw.1 9; go_simp); try with_reducible rfl
  try simp only [Act.put, List.setIfInBounds_toArray, List.set_cons_zero, List.set_cons_succ]
  refine wpAnyH_take (i := 9) (oi := { dst := some 22, op := Op.move (Operand.tmp 0), type := 23, pos := "shift.go:195", after := #[], guard := none }) (v := ?_) rfl (by kernel_rfl) (by kernel_rfl) (by kernel_rfl) (fun _ _ _ h => h) (Or.inl ⟨by kernel_rfl, ?_⟩) hHeld ?_
  rotate_left
  · (intro w hSw; (try dsimp only at hSw); have e1 := cell_of_block hSw.1 1; have e2 := cell_of_block hSw.1 2; have e9 := cell_of_block hSw.1 9; go_simp); try with_reducible rfl
  try simp only [Act.put, List.setIfInBounds_toArray, List.set_cons_zero, List.set_cons_succ]
  refine wpAnyH_take (i := 10) (oi := { dst := some 23, op := Op.nilCheck (Operand.tmp 22), type := 0, pos := "shift.go:195", after := #[{ on := 9, ground := Ground.data }], guard := none }) (v := ?_) rfl (by kernel_rfl) (by kernel_rfl) (by kernel_rfl) (fun _ _ _ h => h) (Or.inl ⟨by kernel_rfl, ?_⟩) hHeld ?_
  rotate_left
  · (intro w hSw; (try dsimp only at hSw); have e1 := cell_of_block hSw.1 1; have e2 := cell_of_block hSw.1 2; have e9 := cell_of_block hSw.1 9; go_simp); try with_reducible rfl
  try simp only [Act.put, List.setIfInBounds_toArray, List.set_cons_zero, List.set_cons_succ]
  refine wpAnyH_take (i := 11) (oi := { dst := some 24, op := Op.fieldAddr 86 (Operand.tmp 23) 4, type := 0, pos := "shift.go:195", after := #[{ on := 10, ground := Ground.data }], guard := none }) (v := ?_) rfl (by kernel_rfl) (by kernel_rfl) (by kernel_rfl) (fun _ _ _ h => h) (Or.inl ⟨by kernel_rfl, ?_⟩) hHeld ?_
  rotate_left
  · (intro w hSw; (try dsimp only at hSw); have e1 := cell_of_block hSw.1 1; have e2 := cell_of_block hSw.1 2; have e9 := cell_of_block hSw.1 9; go_simp); try with_reducible rfl
  try simp only [Act.put, List.setIfInBounds_toArray, List.set_cons_zero, List.set_cons_succ]
  refine wpAnyH_take (i := 12) (oi := { dst := some 25, op := Op.load 84 (Operand.tmp 24), type := 84, pos := "shift.go:195", after := #[{ on := 11, ground := Ground.data }], guard := none }) (v := ?_) rfl (by kernel_rfl) (by kernel_rfl) (by kernel_rfl) (fun _ _ _ h => h) (Or.inl ⟨by kernel_rfl, ?_⟩) hHeld ?_
  rotate_left
  · (intro w hSw; (try dsimp only at hSw); have e1 := cell_of_block hSw.1 1; have e2 := cell_of_block hSw.1 2; have e9 := cell_of_block hSw.1 9; go_simp); try with_reducible rfl
  try simp only [Act.put, List.setIfInBounds_toArray, List.set_cons_zero, List.set_cons_succ]
  refine wpAnyH_take (i := 13) (oi := { dst := some 26, op := Op.call { callee := Callee.builtin Builtin.len, args := #[Operand.tmp 25], argTypes := #[84] }, type := 3, pos := "shift.go:195", after := #[{ on := 12, ground := Ground.data }], guard := none }) (v := ?_) rfl (by kernel_rfl) (by kernel_rfl) (by kernel_rfl) (fun _ _ _ h => h) (Or.inl ⟨by kernel_rfl, ?_⟩) hHeld ?_
  rotate_left
  · (intro w hSw; (try dsimp only at hSw); have e1 := cell_of_block hSw.1 1; have e2 := cell_of_block hSw.1 2; have e9 := cell_of_block hSw.1 9; go_simp); try with_reducible rfl
  try simp only [Act.put, List.setIfInBounds_toArray, List.set_cons_zero, List.set_cons_succ]
  refine wpAnyH_take (i := 14) (oi := { dst := some 27, op := Op.convert 3 95 (Operand.tmp 26), type := 95, pos := "shift.go:195", after := #[{ on := 13, ground := Ground.data }], guard := none }) (v := ?_) rfl (by kernel_rfl) (by kernel_rfl) (by kernel_rfl) (fun _ _ _ h => h) (Or.inl ⟨by kernel_rfl, ?_⟩) hHeld ?_
  rotate_left
  · (intro w hSw; (try dsimp only at hSw); have e1 := cell_of_block hSw.1 1; have e2 := cell_of_block hSw.1 2; have e9 := cell_of_block hSw.1 9; go_simp); try with_reducible rfl
  try simp only [Act.put, List.setIfInBounds_toArray, List.set_cons_zero, List.set_cons_succ]
  refine wpAnyH_ready (rs := [6]) (by kernel_rfl) (by simp) ?_
  refine AllReadyH.cons (o := { dst := some 19, op := Op.call { callee := Callee.value (Operand.func 36), args := #[Operand.tmp 13, Operand.tmp 18, Operand.const (Value.int IntKind.i64 5)], argTypes := #[58, 95, 3] }, type := 58, pos := "shift.go:195", after := #[{ on := 0, ground := Ground.data }, { on := 5, ground := Ground.data }], guard := none }) rfl (fun K hK => ?_) AllReadyH.nil
  have hOld := hide hHeld
  clear hHeld
  go_simp
  refine (HC1.out _).mono ?_
  rintro e v1 ⟨rfl, hb⟩
  (try go_wp2_with fail)
  refine hK.out _ _ (⟨(hb.block _ (heap_lt hOld.out.1)).trans hOld.out.1, hOld.out.2.trans (hb.mono hOld.out.2.size)⟩) (fun hHeld => ?_)
  clear hK K hOld
  try simp only [Act.put, List.setIfInBounds_toArray, List.set_cons_zero, List.set_cons_succ]
  refine wpAnyH_ready (rs := [8]) (by kernel_rfl) (by simp) ?_
  refine AllReadyH.cons (o := { dst := some 21, op := Op.call { callee := Callee.value (Operand.func 36), args := #[Operand.tmp 19, Operand.tmp 20, Operand.const (Value.int IntKind.i64 1)], argTypes := #[58, 95, 3] }, type := 58, pos := "shift.go:195", after := #[{ on := 6, ground := Ground.data }, { on := 7, ground := Ground.data }, { on := 6, ground := Ground.chain }], guard := none }) rfl (fun K hK => ?_) AllReadyH.nil
  have hOld := hide hHeld
  clear hHeld
  go_simp
  refine (HC2.out _).mono ?_
  rintro e v2 ⟨rfl, hb⟩
  (try go_wp2_with fail)
  refine hK.out _ _ (⟨(hb.block _ (heap_lt hOld.out.1)).trans hOld.out.1, hOld.out.2.trans (hb.mono hOld.out.2.size)⟩) (fun hHeld => ?_)
  clear hK K hOld
  try simp only [Act.put, List.setIfInBounds_toArray, List.set_cons_zero, List.set_cons_succ]
  refine wpAnyH_ready (rs := [15]) (by kernel_rfl) (by simp) ?_
  refine AllReadyH.cons (o := { dst := some 28, op := Op.call { callee := Callee.value (Operand.func 36), args := #[Operand.tmp 21, Operand.tmp 27, Operand.const (Value.int IntKind.i64 1)], argTypes := #[58, 95, 3] }, type := 58, pos := "shift.go:195", after := #[{ on := 8, ground := Ground.data }, { on := 14, ground := Ground.data }, { on := 8, ground := Ground.chain }], guard := none }) rfl (fun K hK => ?_) AllReadyH.nil
  have hOld := hide hHeld
  clear hHeld
  go_simp
  refine (HC3.out _).mono ?_
  rintro e v3 ⟨rfl, hb⟩
  (try go_wp2_with fail)
  refine hK.out _ _ (⟨(hb.block _ (heap_lt hOld.out.1)).trans hOld.out.1, hOld.out.2.trans (hb.mono hOld.out.2.size)⟩) (fun hHeld => ?_)
  clear hK K hOld
  try simp only [Act.put, List.setIfInBounds_toArray, List.set_cons_zero, List.set_cons_succ]
  refine wpAnyH_done (by kernel_rfl) ?_ _
  have BW3 := hide hHeld.2
  have N3 := hide hHeld.1
  clear hHeld N0 BF0 HC1 HC2 HC3 hu1 hu2
  obtain ⟨w3, hw3⟩ : ∃ w3 : World, w3 = v3 := ⟨_, rfl⟩
  rw [← hw3] at N3 BW3 ⊢
  clear hw3
  have c9 := cell_of_block N3.out 9
  go_wp2_with fail
  clear c9
  go_loopw [34] (fun i W => ∃ m : Nat, m ≤ L.length ∧ i = .int .i64 m ∧ Below wc.heap.size wc W) (fun i _ => L.length - (intOf i).toNat)
  case atStart => exact ⟨0, by omega, rfl, BW3.out⟩
  case round =>
    obtain ⟨m, hm, rfl, hb⟩ := hrel
    have BR := hide hb
    clear hb N3 BW3
    have NR := hide ((BR.out.block _ HPL.out).trans C0.out.head)
    by_cases hlt : m < L.length
    · obtain ⟨gg, rfl, -, hgl, hcell⟩ := owns_rows totC totC_length tot0 (HRW.out _ BR.out) m hlt
      have HT := hide (HLO.out (L.getD m tot0) (by simp [List.getD, hlt]))
      have y0 := hcell 0 (by decide)
      have y1 := hcell 1 (by decide)
      have y2 := hcell 2 (by decide)
      have y3 := hcell 3 (by decide)
      have y4 := hcell 4 (by decide)
      have y5 := hcell 5 (by decide)
      generalize L.getD m tot0 = yy at *
      obtain ⟨yc, ys, yv, yr, yi, yo⟩ := yy
      simp only [totC, List.getElem?_cons_zero, List.getElem?_cons_succ, Nat.add_zero] at y0 y1 y2 y3 y4 y5
      clear hcell
      have HTW := hide (fun W => twrite_nil yc ys yv yr yi yo HT.out.c HT.out.ins W)
      unfold totV at HTW
      dsimp only at HTW
      have hal := (Below.refl wr.heap.size wr).alloc (Nat.le_refl _) (.cells #[.int .i64 yc, .int .i64 ys, .int .i64 yv, .int .i64 yr, .int .i64 yi, .int .i64 yo] 43)
      have XN := hide (heap_new wr (.cells #[.int .i64 yc, .int .i64 ys, .int .i64 yv, .int .i64 yr, .int .i64 yi, .int .i64 yo] 43))
      have B5 := hide (BR.out.trans (hal.mono BR.out.size))
      clear hal
      go_upto_region 8 with (fail)
      clear y0 y1 y2 y3 y4 y5
      generalize wr.alloc (.cells #[.int .i64 yc, .int .i64 ys, .int .i64 yv, .int .i64 yr, .int .i64 yi, .int .i64 yo] 43) = w5 at *
      generalize wr.heap.size = nb at *
      obtain ⟨⟨g0, g1, g2, g3, g4, g5⟩, -⟩ := six_facts XN.out
      go_wp2_with fail
      refine (HTW.out _).mono ?_
      rintro e w6 ⟨rfl, hb⟩
      have B6 := hide (B5.out.trans (hb.mono B5.out.size))
      clear hb g0 g1 g2 g3 g4 g5
      go_wp2_with fail
      go_roundw
      case rel => exact ⟨m + 1, hlt, by go_num, B6.out⟩
      case measure => simp [intOf]; omega
    · obtain rfl : m = L.length := by omega
      obtain ⟨⟨c0, c1, c2, c3, c4, c5, c6, c7, c8, c9⟩, -⟩ := sh_facts NR.out
      cases op with
      | true =>
        have HTW := hide (fun W => twrite_nil xc xs xv xr xi xo HNO.out.c HNO.out.ins W)
        unfold totV at HTW
        dsimp only at HTW
        dsimp only at c0 c1 c2 c3 c4 c5 c6 c7 c8 c9
        go_wp2_with fail
        refine (HTW.out _).mono ?_
        rintro e w6 ⟨rfl, hb⟩
        have B6 := hide (BR.out.trans (hb.mono BR.out.size))
        clear hb
        go_wp2_with fail
        go_end0
        exact ⟨rfl, B6.out⟩
      | false =>
        go_wp2_with fail
        go_end0
        exact ⟨rfl, BR.out⟩
end Go.Proofs.Ytfdgfeohmkdnoaa
