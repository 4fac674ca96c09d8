/-
  Layer 26: the law's same: are the shifts the document's?
-/
import Derived.Test.YtfdgfeohmkdnoaaRSh4
import Derived.ChangeKeysEq
--import Derived.Test.Zdbg
namespace Go.Proofs.Ytfdgfeohmkdnoaa
set_option linter.unusedSimpArgs false
set_option linter.unusedVariables false
open Go.RowKit Go.WideShapes Go.ChangeShapes Go.ChangeAt Go.Deep

set_option maxRecDepth 100000 in
theorem arr5_self (b c d e f : Int) (w : World) : (Op.equalIn 9999 27 (.agg #[.int .i64 b, .int .i64 c, .int .i64 d, .int .i64 e, .int .i64 f]) (.agg #[.int .i64 b, .int .i64 c, .int .i64 d, .int .i64 e, .int .i64 f])).run Try.prog w = .ok true w := by
  obtain ⟨i0, hi, hz0, hz1, hz2⟩ := info_parts (show (Try.prog.info? 2).map (fun i => (i.zero, i.size, i.bytes)) = some (some (.int .i64 0), 1, 8) by kernel_rfl)
  have hc : Try.prog.cellsOf 2 = 1 := by kernel_rfl
  have p0 : (part 2 #[.int .i64 b, .int .i64 c, .int .i64 d, .int .i64 e, .int .i64 f] 0).run Try.prog w = .ok (.int .i64 b) w := by kernel_rfl
  have p1 : (part 2 #[.int .i64 b, .int .i64 c, .int .i64 d, .int .i64 e, .int .i64 f] 1).run Try.prog w = .ok (.int .i64 c) w := by kernel_rfl
  have p2 : (part 2 #[.int .i64 b, .int .i64 c, .int .i64 d, .int .i64 e, .int .i64 f] 2).run Try.prog w = .ok (.int .i64 d) w := by kernel_rfl
  have p3 : (part 2 #[.int .i64 b, .int .i64 c, .int .i64 d, .int .i64 e, .int .i64 f] 3).run Try.prog w = .ok (.int .i64 e) w := by kernel_rfl
  have p4 : (part 2 #[.int .i64 b, .int .i64 c, .int .i64 d, .int .i64 e, .int .i64 f] 4).run Try.prog w = .ok (.int .i64 f) w := by kernel_rfl
  rw [run_equalIn_array w 9998 _ _ Try.underlying27 hi, hc, show List.range 5 = [0, 1, 2, 3, 4] from rfl]
  simp only [Op.eqItems, Sem.run_bind, Nat.mul_one, Nat.zero_mul, p0, p1, p2, p3, p4, Result.andThen_ok, run_equalIn_int w 9997 2 .i64 .i64 _ _ Try.underlying2, beq_self_eq_true, Bool.not_true, Bool.false_eq_true, if_false, Sem.run_pure]
theorem fieldsRT : fdesc (Try.prog.fieldsOf 29).toList = [("Count", 3, 0), ("Sum", 27, 1)] := by kernel_rfl
theorem eq_cells (a b c d e f : Int) (w : World) : (Op.equalIn 10000 29 (.agg #[.int .i64 a, .int .i64 b, .int .i64 c, .int .i64 d, .int .i64 e, .int .i64 f]) (.agg #[.int .i64 a, .int .i64 b, .int .i64 c, .int .i64 d, .int .i64 e, .int .i64 f])).run Try.prog w = .ok (a == a && (true && true)) w := by
  rw [run_equalIn_agg w 9999 29 _ _ (by kernel_rfl) (by kernel_rfl)]
  exact eqF_cons w _ _ _ fieldsRT (by decide) (by kernel_rfl) (by kernel_rfl) (run_equalIn_int w 9998 3 .i64 .i64 _ _ Try.underlying3) fun l h =>
    eqF_cons w _ _ _ h (by decide) (by kernel_rfl) (by kernel_rfl) (arr5_self b c d e f w) fun l h => eqF_nil w _ _ _ h
theorem rneq_self (a b c d e f : Int) (w : World) : (binOp .neq 29 (.agg #[.int .i64 a, .int .i64 b, .int .i64 c, .int .i64 d, .int .i64 e, .int .i64 f]) (.agg #[.int .i64 a, .int .i64 b, .int .i64 c, .int .i64 d, .int .i64 e, .int .i64 f])).run Try.prog w = .ok (.bool false) w := by
  rw [run_neq_struct, eq_cells]
  simp
theorem rguard_tot (x y : Operand) (a b : Array Value) (w : World) : (eqGuard .neq 29 x y (.agg a) (.agg b)).run Try.prog w = .ok () w := run_eqGuard_agg w .neq 29 x y a b (by kernel_rfl)
theorem sneq_self (a b c d e f : Int) (w : World) : (binOp .neq 43 (.agg #[.int .i64 a, .int .i64 b, .int .i64 c, .int .i64 d, .int .i64 e, .int .i64 f]) (.agg #[.int .i64 a, .int .i64 b, .int .i64 c, .int .i64 d, .int .i64 e, .int .i64 f])).run Try.prog w = .ok (.bool false) w := by
  rw [run_neq_struct]
  have := eqF_six a b c d e f a b c d e f w
  unfold totA at this
  rw [this]
  simp
theorem sguard_tot (x y : Operand) (a b : Array Value) (w : World) : (eqGuard .neq 43 x y (.agg a) (.agg b)).run Try.prog w = .ok () w := run_eqGuard_agg w .neq 43 x y a b (by kernel_rfl)
set_option maxRecDepth 100000 in
theorem lof_any (c s v r i o : Int) (w : World) : Calls Try.prog 14 #[.agg (totA c s v r i o)] w fun e w' => e = .returned (.agg (totA c s v r i o)) ∧ Below w.heap.size w w' := by
  unfold totA
  go_enter Try.func14, Try.ntmps14
  go_wp2_with fail
  exact bodyPost_ret (results_cell_row (P := Try.prog) rfl _ _ (w.heap.size + 1) 29 #[.int .i64 c, .int .i64 s, .int .i64 v, .int .i64 r, .int .i64 i, .int .i64 o] (0, 0) _ rfl (by exact heap_alloc2_new w _ _) Try.underlying29 rfl (by kernel_rfl)) rfl ⟨rfl, by go_grown⟩
theorem both_below {w : World} {B p : Nat} {M : ShM} {V : Value} {nw : TotM} {a : Option Addr} {cp : Nat} (h : ShIs w B p M V ∧ RsIs w M nw a cp) {w' : World} (hb : Below w.heap.size w w') : ShIs w' B p M V ∧ RsIs w' M nw a cp := ⟨h.1.below hb, h.2.below hb⟩
set_option maxRecDepth 100000 in
set_option maxHeartbeats 4000000 in
theorem same26_any (B p : Nat) (M : ShM) (V : Value) (nw : TotM) (a : Option Addr) (cp : Nat) (w : World) (h : ShIs w B p M V) (hr : RsIs w M nw a cp) :
    Calls Try.prog 17 #[.pointer (some ⟨p, 0, none⟩), rsV M nw a cp] w fun e w' => e = .returned (.bool true) ∧ Below w.heap.size w w' := by
  obtain ⟨keep, next, op, now, L⟩ := M
  have hnx : 1 ≤ next ∧ next ≤ 4294967296 := h.ok.nx
  have HOK := hide h.ok
  have XM := hide (And.intro h hr)
  have HOP := hide (fun W (hW : ShIs W B p ⟨keep, next, op, now, L⟩ V) => shopen_any B p _ V W hW)
  obtain ⟨xc, xs, xv, xr, xi, xo⟩ := nw
  have hw1 : IntKind.i64.wrap (next - 12) = next - 12 := by rw [IntKind.wrap_i64]; omega
  have hw2 : IntKind.i64.wrap (next + 2) = next + 2 := by rw [IntKind.wrap_i64]; omega
  have hw3 : IntKind.i64.wrap (next - 1) = next - 1 := by rw [IntKind.wrap_i64]; omega
  have HSO := hide (show shOpen ⟨keep, next, op, now, L⟩ = if op = true then next - 1 else 0 from rfl)
  unfold rsV
  dsimp only
  clear h hr
  obtain ⟨ob, hob⟩ : ∃ ob, ob = (Obj.cells #[.int .i64 keep, .int .i64 next, .bool op, .int .i64 xc, .int .i64 xs, .int .i64 xv, .int .i64 xr, .int .i64 xi, .int .i64 xo, .slice a L.length cp] 32) := ⟨_, rfl⟩
  have hal := (Below.refl w.heap.size w).alloc (Nat.le_refl _) ob
  have XX := hide (show (w.alloc ob).heap[w.heap.size]? = some (.cells #[.int .i64 keep, .int .i64 next, .bool op, .int .i64 xc, .int .i64 xs, .int .i64 xv, .int .i64 xr, .int .i64 xi, .int .i64 xo, .slice a L.length cp] 32 (0, 0)) by rw [heap_new, hob])
  have XM1 := hide (both_below XM.out hal)
  have BB := hide hal
  clear hal XM
  go_enter Try.func17, Try.ntmps17
  go_upto_region 1 with (fail)
  rw [← hob]
  generalize w.alloc ob = w1 at *
  obtain ⟨xb, hxb⟩ : ∃ k, w.heap.size = k := ⟨_, rfl⟩
  rw [hxb] at XX ⊢
  clear hob ob
  have HXB := hide (show w.heap.size ≤ xb ∧ xb < w1.heap.size from ⟨by omega, heap_lt XX.out⟩)
  have HX := hide hxb
  clear hxb
  have c1 := cell_of_block XX.out 1
  have c2 := cell_of_block XX.out 2
  go_upto_if 12 with (fail)
  go_cut [5] from 13 to 15 (fun s5 W => s5 = .int .i64 (shOpen ⟨keep, next, op, now, L⟩) ∧ W = w1)
  case first =>
    cases op with
    | true =>
      have HE := hide (HSO.out.trans (if_pos rfl))
      go_wp2_with fail
      go_meet
      exact ⟨by rw [HE.out], rfl⟩
    | false =>
      have HE := hide (HSO.out.trans (if_neg (by decide)))
      go_wp2_with fail
      go_meet
      exact ⟨by rw [HE.out], rfl⟩
  case rest =>
    obtain ⟨rfl, rfl⟩ := hcut
    go_wp2_with fail
    refine (HOP.out _ XM1.out.1).mono ?_
    rintro e w2 ⟨rfl, rfl⟩
    generalize shOpen ⟨keep, next, op, now, L⟩ = on at *
    go_wp2_with fail
    go_loopw [6] (fun i W => ∃ k : Nat, k ≤ 14 ∧ i = .int .i64 (next - 12 + k) ∧ (ShIs W B p ⟨keep, next, op, now, L⟩ V ∧ RsIs W ⟨keep, next, op, now, L⟩ ⟨xc, xs, xv, xr, xi, xo⟩ a cp) ∧ W.heap[xb]? = some (.cells #[.int .i64 keep, .int .i64 next, .bool op, .int .i64 xc, .int .i64 xs, .int .i64 xv, .int .i64 xr, .int .i64 xi, .int .i64 xo, .slice a L.length cp] 32 (0, 0)) ∧ Below w.heap.size w W) (fun i _ => (next + 2 - intOf i).toNat)
    case atStart => exact ⟨0, by omega, by simp, XM1.out, XX.out, BB.out⟩
    case round =>
      obtain ⟨k, hk, rfl, hm, hx, hb⟩ := hrel
      have XM := hide hm
      have XW := hide hx
      have BW := hide hb
      clear hm hx hb XM1 XX BB
      have c1 := cell_of_block XW.out 1
      by_cases hlt : k < 14
      · have hl1 : next - 12 + (k : Int) < next + 2 := by omega
        have HNR := hide (show inR (next - 12 + (k : Int)) by unfold inR; omega)
        have hwk : IntKind.i64.wrap (next - 12 + (k : Int) + 1) = next - 12 + (k : Int) + 1 := by rw [IntKind.wrap_i64]; omega
        have hwk2 : wrap64 (next - 12 + (k : Int) + 1) = next - 12 + (k : Int) + 1 := by unfold wrap64; omega
        obtain ⟨n, hn⟩ : ∃ n, next - 12 + (k : Int) = n := ⟨_, rfl⟩
        rw [hn] at HNR hl1 hwk hwk2
        have HN := hide hn
        simp only [hn]
        clear hn
        go_wp2_with fail
        refine (shtot_any n HNR.out B p _ V _ XM.out.1).mono ?_
        rintro e w3 ⟨rfl, hb⟩
        have XM3 := hide (both_below XM.out hb)
        have XW3 := hide ((hb.block _ (heap_lt XW.out)).trans XW.out)
        have BW3 := hide (BW.out.trans (hb.mono BW.out.size))
        clear hb XM XW BW c1
        have HROF := hide (fun W (h2 : RsIs W ⟨keep, next, op, now, L⟩ ⟨xc, xs, xv, xr, xi, xo⟩ a cp) => rsof_any n HNR.out ⟨keep, next, op, now, L⟩ ⟨xc, xs, xv, xr, xi, xo⟩ a cp W HOK.out h2)
        have HOF2 := HROF
        unfold rsV at HOF2
        dsimp only at HOF2
        clear HROF
        cases ho : shTot ⟨keep, next, op, now, L⟩ n with
        | some t =>
          obtain ⟨yc, ys, yv, yr, yi, yo⟩ := t
          have HTO := hide ho
          have HOF := hide (fun W => lof_any yc ys yv yr yi yo W)
          unfold totA at HOF
          clear ho
          try rw [HTO.out]
          simp only [Option.getD_some, Option.isSome_some]
          unfold totV
          go_upto_region 10 with (fail)
          obtain ⟨oz, hoz⟩ : ∃ oz, oz = Obj.cells #[.int .i64 yc, .int .i64 ys, .int .i64 yv, .int .i64 yr, .int .i64 yi, .int .i64 yo] 43 := ⟨_, rfl⟩
          rw [← hoz]
          have hal := (Below.refl w3.heap.size w3).alloc (Nat.le_refl _) oz
          have XA := hide (heap_new w3 oz)
          have XM := hide (both_below XM3.out hal)
          have XW := hide ((hal.block _ (heap_lt XW3.out)).trans XW3.out)
          have BW := hide (BW3.out.trans (hal.mono BW3.out.size))
          clear hal XM3 XW3 BW3
          generalize w3.alloc oz = w4 at *
          generalize w3.heap.size = ta at *
          rw [hoz] at XA
          clear hoz oz
          obtain ⟨⟨c0, c1, c2, c3, c4, c5, c6, c7, c8, c9⟩, ⟨f0, f1, f2, f3, f4, f5, f6, f7, f8, f9⟩⟩ := sh_facts XW.out
          go_wp2_with fail
          refine (HOF2.out w4 XM.out.2).mono ?_
          rintro e w5 ⟨rfl, hb⟩
          have XA5 := hide ((hb.block _ (heap_lt XA.out)).trans XA.out)
          have XM5 := hide (both_below XM.out hb)
          have XW5 := hide ((hb.block _ (heap_lt XW.out)).trans XW.out)
          have BW5 := hide (BW.out.trans (hb.mono BW.out.size))
          clear hb XA XM XW BW c0 c1 c2 c3 c4 c5 c6 c7 c8 c9 f0 f1 f2 f3 f4 f5 f6 f7 f8 f9
          try rw [HTO.out]
          simp only [Option.getD_some, Option.isSome_some]
          unfold totV
          go_upto_region 11 with (fail)
          obtain ⟨oz, hoz⟩ : ∃ oz, oz = Obj.cells #[.int .i64 yc, .int .i64 ys, .int .i64 yv, .int .i64 yr, .int .i64 yi, .int .i64 yo] 29 := ⟨_, rfl⟩
          rw [← hoz]
          have hal := (Below.refl w5.heap.size w5).alloc (Nat.le_refl _) oz
          have XB := hide (heap_new w5 oz)
          have XA6 := hide ((hal.block _ (heap_lt XA5.out)).trans XA5.out)
          have XM6 := hide (both_below XM5.out hal)
          have XW6 := hide ((hal.block _ (heap_lt XW5.out)).trans XW5.out)
          have BW6 := hide (BW5.out.trans (hal.mono BW5.out.size))
          clear hal XA5 XM5 XW5 BW5
          generalize w5.alloc oz = w6 at *
          generalize w5.heap.size = tb at *
          rw [hoz] at XB
          clear hoz oz
          have XA0 := hide (show w6.drew.heap[ta]? = _ from XA6.out)
          have XB0 := hide (show w6.drew.heap[tb]? = _ from XB.out)
          have XM := hide (show ShIs w6.drew B p ⟨keep, next, op, now, L⟩ V ∧ RsIs w6.drew ⟨keep, next, op, now, L⟩ ⟨xc, xs, xv, xr, xi, xo⟩ a cp from ⟨XM6.out.1.drew, ⟨XM6.out.2.row, XM6.out.2.now⟩⟩)
          have XW0 := hide (show w6.drew.heap[xb]? = _ from XW6.out)
          have BB0 := hide BW6.out.drew
          clear XA6 XB XM6 XW6 BW6
          have hrg := rguard_tot
          have hrn := rneq_self
          have hsg := sguard_tot
          have hsn := sneq_self
          refine wp_region_held_drew (S := (fun W => W.heap[ta]? = some (.cells #[.int .i64 yc, .int .i64 ys, .int .i64 yv, .int .i64 yr, .int .i64 yi, .int .i64 yo] 43 (0, 0)) ∧ W.heap[tb]? = some (.cells #[.int .i64 yc, .int .i64 ys, .int .i64 yv, .int .i64 yr, .int .i64 yi, .int .i64 yo] 29 (0, 0)))) (by kernel_rfl) (⟨XA0.out, XB0.out⟩) (fun hHeld => ?_)
          generalize w6.drew = u0 at *
          refine wpAnyH_take (i := 0) (oi := { dst := some 42, op := Op.move (Operand.tmp 8), type := 4, pos := "law.go:50", after := #[], guard := none }) (v := ?_) rfl (by kernel_rfl) (by kernel_rfl) (by kernel_rfl) (fun _ _ _ h => h) (Or.inl ⟨by kernel_rfl, ?_⟩) hHeld ?_
          rotate_left
          · (intro w hSw; (try dsimp only at hSw); have e0 := cell_of_block hSw.1 0; have e1 := cell_of_block hSw.1 1; have e2 := cell_of_block hSw.1 2; have e3 := cell_of_block hSw.1 3; have e4 := cell_of_block hSw.1 4; have e5 := cell_of_block hSw.1 5; have g0 := cell_of_block hSw.2 0; have g1 := cell_of_block hSw.2 1; have g2 := cell_of_block hSw.2 2; have g3 := cell_of_block hSw.2 3; have g4 := cell_of_block hSw.2 4; have g5 := cell_of_block hSw.2 5; go_simp); try with_reducible rfl
          try simp only [Act.put, List.setIfInBounds_toArray, List.set_cons_zero, List.set_cons_succ]
          refine wpAnyH_take (i := 1) (oi := { dst := some 43, op := Op.move (Operand.tmp 10), type := 4, pos := "law.go:50", after := #[], guard := none }) (v := ?_) rfl (by kernel_rfl) (by kernel_rfl) (by kernel_rfl) (fun _ _ _ h => h) (Or.inl ⟨by kernel_rfl, ?_⟩) hHeld ?_
          rotate_left
          · (intro w hSw; (try dsimp only at hSw); have e0 := cell_of_block hSw.1 0; have e1 := cell_of_block hSw.1 1; have e2 := cell_of_block hSw.1 2; have e3 := cell_of_block hSw.1 3; have e4 := cell_of_block hSw.1 4; have e5 := cell_of_block hSw.1 5; have g0 := cell_of_block hSw.2 0; have g1 := cell_of_block hSw.2 1; have g2 := cell_of_block hSw.2 2; have g3 := cell_of_block hSw.2 3; have g4 := cell_of_block hSw.2 4; have g5 := cell_of_block hSw.2 5; go_simp); try with_reducible rfl
          try simp only [Act.put, List.setIfInBounds_toArray, List.set_cons_zero, List.set_cons_succ]
          refine wpAnyH_take (i := 2) (oi := { dst := some 44, op := Op.binOp BinOp.neq 4 (Operand.tmp 42) (Operand.tmp 43) 4, type := 4, pos := "law.go:50", after := #[{ on := 0, ground := Ground.data }, { on := 1, ground := Ground.data }], guard := none }) (v := ?_) rfl (by kernel_rfl) (by kernel_rfl) (by kernel_rfl) (fun _ _ _ h => h) (Or.inl ⟨by kernel_rfl, ?_⟩) hHeld ?_
          rotate_left
          · (intro w hSw; (try dsimp only at hSw); have e0 := cell_of_block hSw.1 0; have e1 := cell_of_block hSw.1 1; have e2 := cell_of_block hSw.1 2; have e3 := cell_of_block hSw.1 3; have e4 := cell_of_block hSw.1 4; have e5 := cell_of_block hSw.1 5; have g0 := cell_of_block hSw.2 0; have g1 := cell_of_block hSw.2 1; have g2 := cell_of_block hSw.2 2; have g3 := cell_of_block hSw.2 3; have g4 := cell_of_block hSw.2 4; have g5 := cell_of_block hSw.2 5; go_simp); try with_reducible rfl
          try simp only [Act.put, List.setIfInBounds_toArray, List.set_cons_zero, List.set_cons_succ]
          refine wpAnyH_take (i := 3) (oi := { dst := some 45, op := Op.move (Operand.tmp 44), type := 4, pos := "law.go:50", after := #[{ on := 2, ground := Ground.data }], guard := none }) (v := ?_) rfl (by kernel_rfl) (by kernel_rfl) (by kernel_rfl) (fun _ _ _ h => h) (Or.inl ⟨by kernel_rfl, ?_⟩) hHeld ?_
          rotate_left
          · (intro w hSw; (try dsimp only at hSw); have e0 := cell_of_block hSw.1 0; have e1 := cell_of_block hSw.1 1; have e2 := cell_of_block hSw.1 2; have e3 := cell_of_block hSw.1 3; have e4 := cell_of_block hSw.1 4; have e5 := cell_of_block hSw.1 5; have g0 := cell_of_block hSw.2 0; have g1 := cell_of_block hSw.2 1; have g2 := cell_of_block hSw.2 2; have g3 := cell_of_block hSw.2 3; have g4 := cell_of_block hSw.2 4; have g5 := cell_of_block hSw.2 5; go_simp); try with_reducible rfl
          try simp only [Act.put, List.setIfInBounds_toArray, List.set_cons_zero, List.set_cons_succ]
          refine wpAnyH_take (i := 4) (oi := { dst := some 46, op := Op.move (Operand.tmp 8), type := 4, pos := "law.go:50", after := #[{ on := 3, ground := Ground.guard }], guard := some (3, false) }) (v := ?_) rfl (by kernel_rfl) (by kernel_rfl) (by kernel_rfl) (fun _ _ _ h => h) (Or.inl ⟨by kernel_rfl, ?_⟩) hHeld ?_
          rotate_left
          · (intro w hSw; (try dsimp only at hSw); have e0 := cell_of_block hSw.1 0; have e1 := cell_of_block hSw.1 1; have e2 := cell_of_block hSw.1 2; have e3 := cell_of_block hSw.1 3; have e4 := cell_of_block hSw.1 4; have e5 := cell_of_block hSw.1 5; have g0 := cell_of_block hSw.2 0; have g1 := cell_of_block hSw.2 1; have g2 := cell_of_block hSw.2 2; have g3 := cell_of_block hSw.2 3; have g4 := cell_of_block hSw.2 4; have g5 := cell_of_block hSw.2 5; go_simp); try with_reducible rfl
          try simp only [Act.put, List.setIfInBounds_toArray, List.set_cons_zero, List.set_cons_succ]
          refine wpAnyH_take (i := 5) (oi := { dst := some 47, op := Op.move (Operand.tmp 46), type := 4, pos := "law.go:50", after := #[{ on := 4, ground := Ground.data }, { on := 3, ground := Ground.chain }, { on := 3, ground := Ground.guard }], guard := some (3, false) }) (v := ?_) rfl (by kernel_rfl) (by kernel_rfl) (by kernel_rfl) (fun _ _ _ h => h) (Or.inl ⟨by kernel_rfl, ?_⟩) hHeld ?_
          rotate_left
          · (intro w hSw; (try dsimp only at hSw); have e0 := cell_of_block hSw.1 0; have e1 := cell_of_block hSw.1 1; have e2 := cell_of_block hSw.1 2; have e3 := cell_of_block hSw.1 3; have e4 := cell_of_block hSw.1 4; have e5 := cell_of_block hSw.1 5; have g0 := cell_of_block hSw.2 0; have g1 := cell_of_block hSw.2 1; have g2 := cell_of_block hSw.2 2; have g3 := cell_of_block hSw.2 3; have g4 := cell_of_block hSw.2 4; have g5 := cell_of_block hSw.2 5; go_simp); try with_reducible rfl
          try simp only [Act.put, List.setIfInBounds_toArray, List.set_cons_zero, List.set_cons_succ]
          refine wpAnyH_take (i := 6) (oi := { dst := some 48, op := Op.load 43 (Operand.tmp 7), type := 43, pos := "law.go:50", after := #[{ on := 5, ground := Ground.guard }], guard := some (5, true) }) (v := ?_) rfl (by kernel_rfl) (by kernel_rfl) (by kernel_rfl) (fun _ _ _ h => h) (Or.inl ⟨by kernel_rfl, ?_⟩) hHeld ?_
          rotate_left
          · (intro w hSw; (try dsimp only at hSw); have e0 := cell_of_block hSw.1 0; have e1 := cell_of_block hSw.1 1; have e2 := cell_of_block hSw.1 2; have e3 := cell_of_block hSw.1 3; have e4 := cell_of_block hSw.1 4; have e5 := cell_of_block hSw.1 5; have g0 := cell_of_block hSw.2 0; have g1 := cell_of_block hSw.2 1; have g2 := cell_of_block hSw.2 2; have g3 := cell_of_block hSw.2 3; have g4 := cell_of_block hSw.2 4; have g5 := cell_of_block hSw.2 5; go_simp); try with_reducible rfl
          try simp only [Act.put, List.setIfInBounds_toArray, List.set_cons_zero, List.set_cons_succ]
          refine wpAnyH_take (i := 8) (oi := { dst := some 50, op := Op.load 29 (Operand.tmp 9), type := 29, pos := "law.go:50", after := #[{ on := 5, ground := Ground.guard }], guard := some (5, true) }) (v := ?_) rfl (by kernel_rfl) (by kernel_rfl) (by kernel_rfl) (fun _ _ _ h => h) (Or.inl ⟨by kernel_rfl, ?_⟩) hHeld ?_
          rotate_left
          · (intro w hSw; (try dsimp only at hSw); have e0 := cell_of_block hSw.1 0; have e1 := cell_of_block hSw.1 1; have e2 := cell_of_block hSw.1 2; have e3 := cell_of_block hSw.1 3; have e4 := cell_of_block hSw.1 4; have e5 := cell_of_block hSw.1 5; have g0 := cell_of_block hSw.2 0; have g1 := cell_of_block hSw.2 1; have g2 := cell_of_block hSw.2 2; have g3 := cell_of_block hSw.2 3; have g4 := cell_of_block hSw.2 4; have g5 := cell_of_block hSw.2 5; go_simp); try with_reducible rfl
          try simp only [Act.put, List.setIfInBounds_toArray, List.set_cons_zero, List.set_cons_succ]
          refine wpAnyH_ready (rs := [7]) (by kernel_rfl) (by simp) (AllReadyH.cons (o := { dst := some 49, op := Op.call { callee := Callee.value (Operand.func 14), args := #[Operand.tmp 48], argTypes := #[43] }, type := 29, pos := "law.go:50", after := #[{ on := 6, ground := Ground.data }, { on := 5, ground := Ground.chain }, { on := 5, ground := Ground.guard }], guard := some (5, true) }) rfl (fun K hK => ?_) AllReadyH.nil)
          have hOld := hide hHeld
          clear hHeld
          go_simp
          refine (HOF.out _).mono ?_
          rintro e u7 ⟨rfl, hb⟩
          have XA7 := hide ((hb.block _ (heap_lt XA0.out)).trans XA0.out)
          have XB7 := hide ((hb.block _ (heap_lt XB0.out)).trans XB0.out)
          have BB7 := hide (BB0.out.trans (hb.mono BB0.out.size))
          have XM7 := hide (both_below XM.out hb)
          have XW7 := hide ((hb.block _ (heap_lt XW0.out)).trans XW0.out)
          clear hb
          try unfold totA
          (try go_wp2_with fail)
          refine hK.out _ _ (⟨XA7.out, XB7.out⟩) (fun hHeld => ?_)
          clear hK K hOld
          try simp only [Act.put, List.setIfInBounds_toArray, List.set_cons_zero, List.set_cons_succ]
          refine wpAnyH_take (i := 9) (oi := { dst := some 51, op := Op.binOp BinOp.neq 29 (Operand.tmp 49) (Operand.tmp 50) 29, type := 4, pos := "law.go:50", after := #[{ on := 7, ground := Ground.data }, { on := 8, ground := Ground.data }, { on := 5, ground := Ground.guard }], guard := some (5, true) }) (v := ?_) rfl (by kernel_rfl) (by kernel_rfl) (by kernel_rfl) (fun _ _ _ h => h) (Or.inl ⟨by kernel_rfl, ?_⟩) hHeld ?_
          rotate_left
          · (intro w hSw; (try dsimp only at hSw); have e0 := cell_of_block hSw.1 0; have e1 := cell_of_block hSw.1 1; have e2 := cell_of_block hSw.1 2; have e3 := cell_of_block hSw.1 3; have e4 := cell_of_block hSw.1 4; have e5 := cell_of_block hSw.1 5; have g0 := cell_of_block hSw.2 0; have g1 := cell_of_block hSw.2 1; have g2 := cell_of_block hSw.2 2; have g3 := cell_of_block hSw.2 3; have g4 := cell_of_block hSw.2 4; have g5 := cell_of_block hSw.2 5; go_simp); try with_reducible rfl
          try simp only [Act.put, List.setIfInBounds_toArray, List.set_cons_zero, List.set_cons_succ]
          refine wpAnyH_take (i := 10) (oi := { dst := some 52, op := Op.pick (Operand.tmp 47) (Operand.tmp 51) (Operand.const (Value.bool false)), type := 4, pos := "law.go:50", after := #[{ on := 5, ground := Ground.data }, { on := 9, ground := Ground.data }, { on := 3, ground := Ground.guard }], guard := some (3, false) }) (v := ?_) rfl (by kernel_rfl) (by kernel_rfl) (by kernel_rfl) (fun _ _ _ h => h) (Or.inl ⟨by kernel_rfl, ?_⟩) hHeld ?_
          rotate_left
          · (intro w hSw; (try dsimp only at hSw); have e0 := cell_of_block hSw.1 0; have e1 := cell_of_block hSw.1 1; have e2 := cell_of_block hSw.1 2; have e3 := cell_of_block hSw.1 3; have e4 := cell_of_block hSw.1 4; have e5 := cell_of_block hSw.1 5; have g0 := cell_of_block hSw.2 0; have g1 := cell_of_block hSw.2 1; have g2 := cell_of_block hSw.2 2; have g3 := cell_of_block hSw.2 3; have g4 := cell_of_block hSw.2 4; have g5 := cell_of_block hSw.2 5; go_simp); try with_reducible rfl
          try simp only [Act.put, List.setIfInBounds_toArray, List.set_cons_zero, List.set_cons_succ]
          refine wpAnyH_take (i := 11) (oi := { dst := some 53, op := Op.pick (Operand.tmp 45) (Operand.const (Value.bool true)) (Operand.tmp 52), type := 4, pos := "law.go:50", after := #[{ on := 3, ground := Ground.data }, { on := 10, ground := Ground.data }], guard := none }) (v := ?_) rfl (by kernel_rfl) (by kernel_rfl) (by kernel_rfl) (fun _ _ _ h => h) (Or.inl ⟨by kernel_rfl, ?_⟩) hHeld ?_
          rotate_left
          · (intro w hSw; (try dsimp only at hSw); have e0 := cell_of_block hSw.1 0; have e1 := cell_of_block hSw.1 1; have e2 := cell_of_block hSw.1 2; have e3 := cell_of_block hSw.1 3; have e4 := cell_of_block hSw.1 4; have e5 := cell_of_block hSw.1 5; have g0 := cell_of_block hSw.2 0; have g1 := cell_of_block hSw.2 1; have g2 := cell_of_block hSw.2 2; have g3 := cell_of_block hSw.2 3; have g4 := cell_of_block hSw.2 4; have g5 := cell_of_block hSw.2 5; go_simp); try with_reducible rfl
          try simp only [Act.put, List.setIfInBounds_toArray, List.set_cons_zero, List.set_cons_succ]
          refine wpAnyH_take (i := 12) (oi := { dst := some 54, op := Op.move (Operand.tmp 53), type := 4, pos := "law.go:50", after := #[{ on := 11, ground := Ground.data }, { on := 7, ground := Ground.chain }], guard := none }) (v := ?_) rfl (by kernel_rfl) (by kernel_rfl) (by kernel_rfl) (fun _ _ _ h => h) (Or.inl ⟨by kernel_rfl, ?_⟩) hHeld ?_
          rotate_left
          · (intro w hSw; (try dsimp only at hSw); have e0 := cell_of_block hSw.1 0; have e1 := cell_of_block hSw.1 1; have e2 := cell_of_block hSw.1 2; have e3 := cell_of_block hSw.1 3; have e4 := cell_of_block hSw.1 4; have e5 := cell_of_block hSw.1 5; have g0 := cell_of_block hSw.2 0; have g1 := cell_of_block hSw.2 1; have g2 := cell_of_block hSw.2 2; have g3 := cell_of_block hSw.2 3; have g4 := cell_of_block hSw.2 4; have g5 := cell_of_block hSw.2 5; go_simp); try with_reducible rfl
          try simp only [Act.put, List.setIfInBounds_toArray, List.set_cons_zero, List.set_cons_succ]
          refine wpAnyH_take (i := 13) (oi := { dst := some 55, op := Op.move (Operand.tmp 8), type := 4, pos := "law.go:50", after := #[{ on := 12, ground := Ground.guard }], guard := some (12, false) }) (v := ?_) rfl (by kernel_rfl) (by kernel_rfl) (by kernel_rfl) (fun _ _ _ h => h) (Or.inl ⟨by kernel_rfl, ?_⟩) hHeld ?_
          rotate_left
          · (intro w hSw; (try dsimp only at hSw); have e0 := cell_of_block hSw.1 0; have e1 := cell_of_block hSw.1 1; have e2 := cell_of_block hSw.1 2; have e3 := cell_of_block hSw.1 3; have e4 := cell_of_block hSw.1 4; have e5 := cell_of_block hSw.1 5; have g0 := cell_of_block hSw.2 0; have g1 := cell_of_block hSw.2 1; have g2 := cell_of_block hSw.2 2; have g3 := cell_of_block hSw.2 3; have g4 := cell_of_block hSw.2 4; have g5 := cell_of_block hSw.2 5; go_simp); try with_reducible rfl
          try simp only [Act.put, List.setIfInBounds_toArray, List.set_cons_zero, List.set_cons_succ]
          refine wpAnyH_take (i := 14) (oi := { dst := some 56, op := Op.unOp UnOp.not 4 (Operand.tmp 55), type := 4, pos := "law.go:50", after := #[{ on := 13, ground := Ground.data }, { on := 12, ground := Ground.guard }], guard := some (12, false) }) (v := ?_) rfl (by kernel_rfl) (by kernel_rfl) (by kernel_rfl) (fun _ _ _ h => h) (Or.inl ⟨by kernel_rfl, ?_⟩) hHeld ?_
          rotate_left
          · (intro w hSw; (try dsimp only at hSw); have e0 := cell_of_block hSw.1 0; have e1 := cell_of_block hSw.1 1; have e2 := cell_of_block hSw.1 2; have e3 := cell_of_block hSw.1 3; have e4 := cell_of_block hSw.1 4; have e5 := cell_of_block hSw.1 5; have g0 := cell_of_block hSw.2 0; have g1 := cell_of_block hSw.2 1; have g2 := cell_of_block hSw.2 2; have g3 := cell_of_block hSw.2 3; have g4 := cell_of_block hSw.2 4; have g5 := cell_of_block hSw.2 5; go_simp); try with_reducible rfl
          try simp only [Act.put, List.setIfInBounds_toArray, List.set_cons_zero, List.set_cons_succ]
          refine wpAnyH_take (i := 15) (oi := { dst := some 57, op := Op.move (Operand.tmp 56), type := 4, pos := "law.go:50", after := #[{ on := 14, ground := Ground.data }, { on := 12, ground := Ground.chain }, { on := 12, ground := Ground.guard }], guard := some (12, false) }) (v := ?_) rfl (by kernel_rfl) (by kernel_rfl) (by kernel_rfl) (fun _ _ _ h => h) (Or.inl ⟨by kernel_rfl, ?_⟩) hHeld ?_
          rotate_left
          · (intro w hSw; (try dsimp only at hSw); have e0 := cell_of_block hSw.1 0; have e1 := cell_of_block hSw.1 1; have e2 := cell_of_block hSw.1 2; have e3 := cell_of_block hSw.1 3; have e4 := cell_of_block hSw.1 4; have e5 := cell_of_block hSw.1 5; have g0 := cell_of_block hSw.2 0; have g1 := cell_of_block hSw.2 1; have g2 := cell_of_block hSw.2 2; have g3 := cell_of_block hSw.2 3; have g4 := cell_of_block hSw.2 4; have g5 := cell_of_block hSw.2 5; go_simp); try with_reducible rfl
          try simp only [Act.put, List.setIfInBounds_toArray, List.set_cons_zero, List.set_cons_succ]
          refine wpAnyH_take (i := 16) (oi := { dst := some 58, op := Op.load 43 (Operand.tmp 7), type := 43, pos := "law.go:50", after := #[{ on := 15, ground := Ground.guard }], guard := some (15, true) }) (v := undef) rfl (by kernel_rfl) (by kernel_rfl) (by kernel_rfl) (fun _ _ _ h => h) (Or.inr ⟨by kernel_rfl, rfl⟩) hHeld ?_
          try simp only [Act.put, List.setIfInBounds_toArray, List.set_cons_zero, List.set_cons_succ]
          refine wpAnyH_take (i := 17) (oi := { dst := some 59, op := Op.build 43 #[], type := 43, pos := "law.go:50", after := #[{ on := 15, ground := Ground.guard }], guard := some (15, true) }) (v := undef) rfl (by kernel_rfl) (by kernel_rfl) (by kernel_rfl) (fun _ _ _ h => h) (Or.inr ⟨by kernel_rfl, rfl⟩) hHeld ?_
          try simp only [Act.put, List.setIfInBounds_toArray, List.set_cons_zero, List.set_cons_succ]
          refine wpAnyH_take (i := 18) (oi := { dst := some 60, op := Op.binOp BinOp.neq 43 (Operand.tmp 58) (Operand.tmp 59) 43, type := 4, pos := "law.go:50", after := #[{ on := 16, ground := Ground.data }, { on := 17, ground := Ground.data }, { on := 15, ground := Ground.guard }], guard := some (15, true) }) (v := undef) rfl (by kernel_rfl) (by kernel_rfl) (by kernel_rfl) (fun _ _ _ h => h) (Or.inr ⟨by kernel_rfl, rfl⟩) hHeld ?_
          try simp only [Act.put, List.setIfInBounds_toArray, List.set_cons_zero, List.set_cons_succ]
          refine wpAnyH_take (i := 19) (oi := { dst := some 61, op := Op.pick (Operand.tmp 57) (Operand.tmp 60) (Operand.const (Value.bool false)), type := 4, pos := "law.go:50", after := #[{ on := 15, ground := Ground.data }, { on := 18, ground := Ground.data }, { on := 12, ground := Ground.guard }], guard := some (12, false) }) (v := ?_) rfl (by kernel_rfl) (by kernel_rfl) (by kernel_rfl) (fun _ _ _ h => h) (Or.inl ⟨by kernel_rfl, ?_⟩) hHeld ?_
          rotate_left
          · (intro w hSw; (try dsimp only at hSw); have e0 := cell_of_block hSw.1 0; have e1 := cell_of_block hSw.1 1; have e2 := cell_of_block hSw.1 2; have e3 := cell_of_block hSw.1 3; have e4 := cell_of_block hSw.1 4; have e5 := cell_of_block hSw.1 5; have g0 := cell_of_block hSw.2 0; have g1 := cell_of_block hSw.2 1; have g2 := cell_of_block hSw.2 2; have g3 := cell_of_block hSw.2 3; have g4 := cell_of_block hSw.2 4; have g5 := cell_of_block hSw.2 5; go_simp); try with_reducible rfl
          try simp only [Act.put, List.setIfInBounds_toArray, List.set_cons_zero, List.set_cons_succ]
          refine wpAnyH_take (i := 20) (oi := { dst := some 62, op := Op.pick (Operand.tmp 54) (Operand.const (Value.bool true)) (Operand.tmp 61), type := 4, pos := "law.go:50", after := #[{ on := 12, ground := Ground.data }, { on := 19, ground := Ground.data }], guard := none }) (v := ?_) rfl (by kernel_rfl) (by kernel_rfl) (by kernel_rfl) (fun _ _ _ h => h) (Or.inl ⟨by kernel_rfl, ?_⟩) hHeld ?_
          rotate_left
          · (intro w hSw; (try dsimp only at hSw); have e0 := cell_of_block hSw.1 0; have e1 := cell_of_block hSw.1 1; have e2 := cell_of_block hSw.1 2; have e3 := cell_of_block hSw.1 3; have e4 := cell_of_block hSw.1 4; have e5 := cell_of_block hSw.1 5; have g0 := cell_of_block hSw.2 0; have g1 := cell_of_block hSw.2 1; have g2 := cell_of_block hSw.2 2; have g3 := cell_of_block hSw.2 3; have g4 := cell_of_block hSw.2 4; have g5 := cell_of_block hSw.2 5; go_simp); try with_reducible rfl
          try simp only [Act.put, List.setIfInBounds_toArray, List.set_cons_zero, List.set_cons_succ]
          refine wpAnyH_done (by kernel_rfl) ?_ _
          clear hHeld
          go_wp2_with fail
          go_roundw
          case rel => exact ⟨k + 1, by omega, by rw [← HN.out]; go_num <;> omega, XM7.out, XW7.out, BB7.out⟩
          case measure => have := HN.out; simp [intOf]; omega
        | none =>
          have HTO := hide ho
          clear ho
          try rw [HTO.out]
          simp only [Option.getD_none, Option.isSome_none, tot0]
          unfold totV
          go_upto_region 10 with (fail)
          obtain ⟨oz, hoz⟩ : ∃ oz, oz = Obj.cells #[.int .i64 0, .int .i64 0, .int .i64 0, .int .i64 0, .int .i64 0, .int .i64 0] 43 := ⟨_, rfl⟩
          rw [← hoz]
          have hal := (Below.refl w3.heap.size w3).alloc (Nat.le_refl _) oz
          have XA := hide (heap_new w3 oz)
          have XM := hide (both_below XM3.out hal)
          have XW := hide ((hal.block _ (heap_lt XW3.out)).trans XW3.out)
          have BW := hide (BW3.out.trans (hal.mono BW3.out.size))
          clear hal XM3 XW3 BW3
          generalize w3.alloc oz = w4 at *
          generalize w3.heap.size = ta at *
          rw [hoz] at XA
          clear hoz oz
          obtain ⟨⟨c0, c1, c2, c3, c4, c5, c6, c7, c8, c9⟩, ⟨f0, f1, f2, f3, f4, f5, f6, f7, f8, f9⟩⟩ := sh_facts XW.out
          go_wp2_with fail
          refine (HOF2.out w4 XM.out.2).mono ?_
          rintro e w5 ⟨rfl, hb⟩
          have XA5 := hide ((hb.block _ (heap_lt XA.out)).trans XA.out)
          have XM5 := hide (both_below XM.out hb)
          have XW5 := hide ((hb.block _ (heap_lt XW.out)).trans XW.out)
          have BW5 := hide (BW.out.trans (hb.mono BW.out.size))
          clear hb XA XM XW BW c0 c1 c2 c3 c4 c5 c6 c7 c8 c9 f0 f1 f2 f3 f4 f5 f6 f7 f8 f9
          try rw [HTO.out]
          simp only [Option.getD_none, Option.isSome_none, tot0]
          unfold totV
          go_upto_region 11 with (fail)
          obtain ⟨oz, hoz⟩ : ∃ oz, oz = Obj.cells #[.int .i64 0, .int .i64 0, .int .i64 0, .int .i64 0, .int .i64 0, .int .i64 0] 29 := ⟨_, rfl⟩
          rw [← hoz]
          have hal := (Below.refl w5.heap.size w5).alloc (Nat.le_refl _) oz
          have XB := hide (heap_new w5 oz)
          have XA6 := hide ((hal.block _ (heap_lt XA5.out)).trans XA5.out)
          have XM6 := hide (both_below XM5.out hal)
          have XW6 := hide ((hal.block _ (heap_lt XW5.out)).trans XW5.out)
          have BW6 := hide (BW5.out.trans (hal.mono BW5.out.size))
          clear hal XA5 XM5 XW5 BW5
          generalize w5.alloc oz = w6 at *
          generalize w5.heap.size = tb at *
          rw [hoz] at XB
          clear hoz oz
          have XA0 := hide (show w6.drew.heap[ta]? = _ from XA6.out)
          have XB0 := hide (show w6.drew.heap[tb]? = _ from XB.out)
          have XM := hide (show ShIs w6.drew B p ⟨keep, next, op, now, L⟩ V ∧ RsIs w6.drew ⟨keep, next, op, now, L⟩ ⟨xc, xs, xv, xr, xi, xo⟩ a cp from ⟨XM6.out.1.drew, ⟨XM6.out.2.row, XM6.out.2.now⟩⟩)
          have XW0 := hide (show w6.drew.heap[xb]? = _ from XW6.out)
          have BB0 := hide BW6.out.drew
          clear XA6 XB XM6 XW6 BW6
          have hrg := rguard_tot
          have hrn := rneq_self
          have hsg := sguard_tot
          have hsn := sneq_self
          refine wp_region_held_drew (S := (fun W => W.heap[ta]? = some (.cells #[.int .i64 0, .int .i64 0, .int .i64 0, .int .i64 0, .int .i64 0, .int .i64 0] 43 (0, 0)) ∧ W.heap[tb]? = some (.cells #[.int .i64 0, .int .i64 0, .int .i64 0, .int .i64 0, .int .i64 0, .int .i64 0] 29 (0, 0)))) (by kernel_rfl) (⟨XA0.out, XB0.out⟩) (fun hHeld => ?_)
          generalize w6.drew = u0 at *
          refine wpAnyH_take (i := 0) (oi := { dst := some 42, op := Op.move (Operand.tmp 8), type := 4, pos := "law.go:50", after := #[], guard := none }) (v := ?_) rfl (by kernel_rfl) (by kernel_rfl) (by kernel_rfl) (fun _ _ _ h => h) (Or.inl ⟨by kernel_rfl, ?_⟩) hHeld ?_
          rotate_left
          · (intro w hSw; (try dsimp only at hSw); have e0 := cell_of_block hSw.1 0; have e1 := cell_of_block hSw.1 1; have e2 := cell_of_block hSw.1 2; have e3 := cell_of_block hSw.1 3; have e4 := cell_of_block hSw.1 4; have e5 := cell_of_block hSw.1 5; have g0 := cell_of_block hSw.2 0; have g1 := cell_of_block hSw.2 1; have g2 := cell_of_block hSw.2 2; have g3 := cell_of_block hSw.2 3; have g4 := cell_of_block hSw.2 4; have g5 := cell_of_block hSw.2 5; go_simp); try with_reducible rfl
          try simp only [Act.put, List.setIfInBounds_toArray, List.set_cons_zero, List.set_cons_succ]
          refine wpAnyH_take (i := 1) (oi := { dst := some 43, op := Op.move (Operand.tmp 10), type := 4, pos := "law.go:50", after := #[], guard := none }) (v := ?_) rfl (by kernel_rfl) (by kernel_rfl) (by kernel_rfl) (fun _ _ _ h => h) (Or.inl ⟨by kernel_rfl, ?_⟩) hHeld ?_
          rotate_left
          · (intro w hSw; (try dsimp only at hSw); have e0 := cell_of_block hSw.1 0; have e1 := cell_of_block hSw.1 1; have e2 := cell_of_block hSw.1 2; have e3 := cell_of_block hSw.1 3; have e4 := cell_of_block hSw.1 4; have e5 := cell_of_block hSw.1 5; have g0 := cell_of_block hSw.2 0; have g1 := cell_of_block hSw.2 1; have g2 := cell_of_block hSw.2 2; have g3 := cell_of_block hSw.2 3; have g4 := cell_of_block hSw.2 4; have g5 := cell_of_block hSw.2 5; go_simp); try with_reducible rfl
          try simp only [Act.put, List.setIfInBounds_toArray, List.set_cons_zero, List.set_cons_succ]
          refine wpAnyH_take (i := 2) (oi := { dst := some 44, op := Op.binOp BinOp.neq 4 (Operand.tmp 42) (Operand.tmp 43) 4, type := 4, pos := "law.go:50", after := #[{ on := 0, ground := Ground.data }, { on := 1, ground := Ground.data }], guard := none }) (v := ?_) rfl (by kernel_rfl) (by kernel_rfl) (by kernel_rfl) (fun _ _ _ h => h) (Or.inl ⟨by kernel_rfl, ?_⟩) hHeld ?_
          rotate_left
          · (intro w hSw; (try dsimp only at hSw); have e0 := cell_of_block hSw.1 0; have e1 := cell_of_block hSw.1 1; have e2 := cell_of_block hSw.1 2; have e3 := cell_of_block hSw.1 3; have e4 := cell_of_block hSw.1 4; have e5 := cell_of_block hSw.1 5; have g0 := cell_of_block hSw.2 0; have g1 := cell_of_block hSw.2 1; have g2 := cell_of_block hSw.2 2; have g3 := cell_of_block hSw.2 3; have g4 := cell_of_block hSw.2 4; have g5 := cell_of_block hSw.2 5; go_simp); try with_reducible rfl
          try simp only [Act.put, List.setIfInBounds_toArray, List.set_cons_zero, List.set_cons_succ]
          refine wpAnyH_take (i := 3) (oi := { dst := some 45, op := Op.move (Operand.tmp 44), type := 4, pos := "law.go:50", after := #[{ on := 2, ground := Ground.data }], guard := none }) (v := ?_) rfl (by kernel_rfl) (by kernel_rfl) (by kernel_rfl) (fun _ _ _ h => h) (Or.inl ⟨by kernel_rfl, ?_⟩) hHeld ?_
          rotate_left
          · (intro w hSw; (try dsimp only at hSw); have e0 := cell_of_block hSw.1 0; have e1 := cell_of_block hSw.1 1; have e2 := cell_of_block hSw.1 2; have e3 := cell_of_block hSw.1 3; have e4 := cell_of_block hSw.1 4; have e5 := cell_of_block hSw.1 5; have g0 := cell_of_block hSw.2 0; have g1 := cell_of_block hSw.2 1; have g2 := cell_of_block hSw.2 2; have g3 := cell_of_block hSw.2 3; have g4 := cell_of_block hSw.2 4; have g5 := cell_of_block hSw.2 5; go_simp); try with_reducible rfl
          try simp only [Act.put, List.setIfInBounds_toArray, List.set_cons_zero, List.set_cons_succ]
          refine wpAnyH_take (i := 4) (oi := { dst := some 46, op := Op.move (Operand.tmp 8), type := 4, pos := "law.go:50", after := #[{ on := 3, ground := Ground.guard }], guard := some (3, false) }) (v := ?_) rfl (by kernel_rfl) (by kernel_rfl) (by kernel_rfl) (fun _ _ _ h => h) (Or.inl ⟨by kernel_rfl, ?_⟩) hHeld ?_
          rotate_left
          · (intro w hSw; (try dsimp only at hSw); have e0 := cell_of_block hSw.1 0; have e1 := cell_of_block hSw.1 1; have e2 := cell_of_block hSw.1 2; have e3 := cell_of_block hSw.1 3; have e4 := cell_of_block hSw.1 4; have e5 := cell_of_block hSw.1 5; have g0 := cell_of_block hSw.2 0; have g1 := cell_of_block hSw.2 1; have g2 := cell_of_block hSw.2 2; have g3 := cell_of_block hSw.2 3; have g4 := cell_of_block hSw.2 4; have g5 := cell_of_block hSw.2 5; go_simp); try with_reducible rfl
          try simp only [Act.put, List.setIfInBounds_toArray, List.set_cons_zero, List.set_cons_succ]
          refine wpAnyH_take (i := 5) (oi := { dst := some 47, op := Op.move (Operand.tmp 46), type := 4, pos := "law.go:50", after := #[{ on := 4, ground := Ground.data }, { on := 3, ground := Ground.chain }, { on := 3, ground := Ground.guard }], guard := some (3, false) }) (v := ?_) rfl (by kernel_rfl) (by kernel_rfl) (by kernel_rfl) (fun _ _ _ h => h) (Or.inl ⟨by kernel_rfl, ?_⟩) hHeld ?_
          rotate_left
          · (intro w hSw; (try dsimp only at hSw); have e0 := cell_of_block hSw.1 0; have e1 := cell_of_block hSw.1 1; have e2 := cell_of_block hSw.1 2; have e3 := cell_of_block hSw.1 3; have e4 := cell_of_block hSw.1 4; have e5 := cell_of_block hSw.1 5; have g0 := cell_of_block hSw.2 0; have g1 := cell_of_block hSw.2 1; have g2 := cell_of_block hSw.2 2; have g3 := cell_of_block hSw.2 3; have g4 := cell_of_block hSw.2 4; have g5 := cell_of_block hSw.2 5; go_simp); try with_reducible rfl
          try simp only [Act.put, List.setIfInBounds_toArray, List.set_cons_zero, List.set_cons_succ]
          refine wpAnyH_take (i := 6) (oi := { dst := some 48, op := Op.load 43 (Operand.tmp 7), type := 43, pos := "law.go:50", after := #[{ on := 5, ground := Ground.guard }], guard := some (5, true) }) (v := undef) rfl (by kernel_rfl) (by kernel_rfl) (by kernel_rfl) (fun _ _ _ h => h) (Or.inr ⟨by kernel_rfl, rfl⟩) hHeld ?_
          try simp only [Act.put, List.setIfInBounds_toArray, List.set_cons_zero, List.set_cons_succ]
          refine wpAnyH_take (i := 7) (oi := { dst := some 49, op := Op.call { callee := Callee.value (Operand.func 14), args := #[Operand.tmp 48], argTypes := #[43] }, type := 29, pos := "law.go:50", after := #[{ on := 6, ground := Ground.data }, { on := 5, ground := Ground.chain }, { on := 5, ground := Ground.guard }], guard := some (5, true) }) (v := undef) rfl (by kernel_rfl) (by kernel_rfl) (by kernel_rfl) (fun _ _ _ h => h) (Or.inr ⟨by kernel_rfl, rfl⟩) hHeld ?_
          try simp only [Act.put, List.setIfInBounds_toArray, List.set_cons_zero, List.set_cons_succ]
          refine wpAnyH_take (i := 8) (oi := { dst := some 50, op := Op.load 29 (Operand.tmp 9), type := 29, pos := "law.go:50", after := #[{ on := 5, ground := Ground.guard }], guard := some (5, true) }) (v := undef) rfl (by kernel_rfl) (by kernel_rfl) (by kernel_rfl) (fun _ _ _ h => h) (Or.inr ⟨by kernel_rfl, rfl⟩) hHeld ?_
          try simp only [Act.put, List.setIfInBounds_toArray, List.set_cons_zero, List.set_cons_succ]
          refine wpAnyH_take (i := 9) (oi := { dst := some 51, op := Op.binOp BinOp.neq 29 (Operand.tmp 49) (Operand.tmp 50) 29, type := 4, pos := "law.go:50", after := #[{ on := 7, ground := Ground.data }, { on := 8, ground := Ground.data }, { on := 5, ground := Ground.guard }], guard := some (5, true) }) (v := undef) rfl (by kernel_rfl) (by kernel_rfl) (by kernel_rfl) (fun _ _ _ h => h) (Or.inr ⟨by kernel_rfl, rfl⟩) hHeld ?_
          try simp only [Act.put, List.setIfInBounds_toArray, List.set_cons_zero, List.set_cons_succ]
          refine wpAnyH_take (i := 10) (oi := { dst := some 52, op := Op.pick (Operand.tmp 47) (Operand.tmp 51) (Operand.const (Value.bool false)), type := 4, pos := "law.go:50", after := #[{ on := 5, ground := Ground.data }, { on := 9, ground := Ground.data }, { on := 3, ground := Ground.guard }], guard := some (3, false) }) (v := ?_) rfl (by kernel_rfl) (by kernel_rfl) (by kernel_rfl) (fun _ _ _ h => h) (Or.inl ⟨by kernel_rfl, ?_⟩) hHeld ?_
          rotate_left
          · (intro w hSw; (try dsimp only at hSw); have e0 := cell_of_block hSw.1 0; have e1 := cell_of_block hSw.1 1; have e2 := cell_of_block hSw.1 2; have e3 := cell_of_block hSw.1 3; have e4 := cell_of_block hSw.1 4; have e5 := cell_of_block hSw.1 5; have g0 := cell_of_block hSw.2 0; have g1 := cell_of_block hSw.2 1; have g2 := cell_of_block hSw.2 2; have g3 := cell_of_block hSw.2 3; have g4 := cell_of_block hSw.2 4; have g5 := cell_of_block hSw.2 5; go_simp); try with_reducible rfl
          try simp only [Act.put, List.setIfInBounds_toArray, List.set_cons_zero, List.set_cons_succ]
          refine wpAnyH_take (i := 11) (oi := { dst := some 53, op := Op.pick (Operand.tmp 45) (Operand.const (Value.bool true)) (Operand.tmp 52), type := 4, pos := "law.go:50", after := #[{ on := 3, ground := Ground.data }, { on := 10, ground := Ground.data }], guard := none }) (v := ?_) rfl (by kernel_rfl) (by kernel_rfl) (by kernel_rfl) (fun _ _ _ h => h) (Or.inl ⟨by kernel_rfl, ?_⟩) hHeld ?_
          rotate_left
          · (intro w hSw; (try dsimp only at hSw); have e0 := cell_of_block hSw.1 0; have e1 := cell_of_block hSw.1 1; have e2 := cell_of_block hSw.1 2; have e3 := cell_of_block hSw.1 3; have e4 := cell_of_block hSw.1 4; have e5 := cell_of_block hSw.1 5; have g0 := cell_of_block hSw.2 0; have g1 := cell_of_block hSw.2 1; have g2 := cell_of_block hSw.2 2; have g3 := cell_of_block hSw.2 3; have g4 := cell_of_block hSw.2 4; have g5 := cell_of_block hSw.2 5; go_simp); try with_reducible rfl
          try simp only [Act.put, List.setIfInBounds_toArray, List.set_cons_zero, List.set_cons_succ]
          refine wpAnyH_take (i := 12) (oi := { dst := some 54, op := Op.move (Operand.tmp 53), type := 4, pos := "law.go:50", after := #[{ on := 11, ground := Ground.data }, { on := 7, ground := Ground.chain }], guard := none }) (v := ?_) rfl (by kernel_rfl) (by kernel_rfl) (by kernel_rfl) (fun _ _ _ h => h) (Or.inl ⟨by kernel_rfl, ?_⟩) hHeld ?_
          rotate_left
          · (intro w hSw; (try dsimp only at hSw); have e0 := cell_of_block hSw.1 0; have e1 := cell_of_block hSw.1 1; have e2 := cell_of_block hSw.1 2; have e3 := cell_of_block hSw.1 3; have e4 := cell_of_block hSw.1 4; have e5 := cell_of_block hSw.1 5; have g0 := cell_of_block hSw.2 0; have g1 := cell_of_block hSw.2 1; have g2 := cell_of_block hSw.2 2; have g3 := cell_of_block hSw.2 3; have g4 := cell_of_block hSw.2 4; have g5 := cell_of_block hSw.2 5; go_simp); try with_reducible rfl
          try simp only [Act.put, List.setIfInBounds_toArray, List.set_cons_zero, List.set_cons_succ]
          refine wpAnyH_take (i := 13) (oi := { dst := some 55, op := Op.move (Operand.tmp 8), type := 4, pos := "law.go:50", after := #[{ on := 12, ground := Ground.guard }], guard := some (12, false) }) (v := ?_) rfl (by kernel_rfl) (by kernel_rfl) (by kernel_rfl) (fun _ _ _ h => h) (Or.inl ⟨by kernel_rfl, ?_⟩) hHeld ?_
          rotate_left
          · (intro w hSw; (try dsimp only at hSw); have e0 := cell_of_block hSw.1 0; have e1 := cell_of_block hSw.1 1; have e2 := cell_of_block hSw.1 2; have e3 := cell_of_block hSw.1 3; have e4 := cell_of_block hSw.1 4; have e5 := cell_of_block hSw.1 5; have g0 := cell_of_block hSw.2 0; have g1 := cell_of_block hSw.2 1; have g2 := cell_of_block hSw.2 2; have g3 := cell_of_block hSw.2 3; have g4 := cell_of_block hSw.2 4; have g5 := cell_of_block hSw.2 5; go_simp); try with_reducible rfl
          try simp only [Act.put, List.setIfInBounds_toArray, List.set_cons_zero, List.set_cons_succ]
          refine wpAnyH_take (i := 14) (oi := { dst := some 56, op := Op.unOp UnOp.not 4 (Operand.tmp 55), type := 4, pos := "law.go:50", after := #[{ on := 13, ground := Ground.data }, { on := 12, ground := Ground.guard }], guard := some (12, false) }) (v := ?_) rfl (by kernel_rfl) (by kernel_rfl) (by kernel_rfl) (fun _ _ _ h => h) (Or.inl ⟨by kernel_rfl, ?_⟩) hHeld ?_
          rotate_left
          · (intro w hSw; (try dsimp only at hSw); have e0 := cell_of_block hSw.1 0; have e1 := cell_of_block hSw.1 1; have e2 := cell_of_block hSw.1 2; have e3 := cell_of_block hSw.1 3; have e4 := cell_of_block hSw.1 4; have e5 := cell_of_block hSw.1 5; have g0 := cell_of_block hSw.2 0; have g1 := cell_of_block hSw.2 1; have g2 := cell_of_block hSw.2 2; have g3 := cell_of_block hSw.2 3; have g4 := cell_of_block hSw.2 4; have g5 := cell_of_block hSw.2 5; go_simp); try with_reducible rfl
          try simp only [Act.put, List.setIfInBounds_toArray, List.set_cons_zero, List.set_cons_succ]
          refine wpAnyH_take (i := 15) (oi := { dst := some 57, op := Op.move (Operand.tmp 56), type := 4, pos := "law.go:50", after := #[{ on := 14, ground := Ground.data }, { on := 12, ground := Ground.chain }, { on := 12, ground := Ground.guard }], guard := some (12, false) }) (v := ?_) rfl (by kernel_rfl) (by kernel_rfl) (by kernel_rfl) (fun _ _ _ h => h) (Or.inl ⟨by kernel_rfl, ?_⟩) hHeld ?_
          rotate_left
          · (intro w hSw; (try dsimp only at hSw); have e0 := cell_of_block hSw.1 0; have e1 := cell_of_block hSw.1 1; have e2 := cell_of_block hSw.1 2; have e3 := cell_of_block hSw.1 3; have e4 := cell_of_block hSw.1 4; have e5 := cell_of_block hSw.1 5; have g0 := cell_of_block hSw.2 0; have g1 := cell_of_block hSw.2 1; have g2 := cell_of_block hSw.2 2; have g3 := cell_of_block hSw.2 3; have g4 := cell_of_block hSw.2 4; have g5 := cell_of_block hSw.2 5; go_simp); try with_reducible rfl
          try simp only [Act.put, List.setIfInBounds_toArray, List.set_cons_zero, List.set_cons_succ]
          refine wpAnyH_take (i := 16) (oi := { dst := some 58, op := Op.load 43 (Operand.tmp 7), type := 43, pos := "law.go:50", after := #[{ on := 15, ground := Ground.guard }], guard := some (15, true) }) (v := ?_) rfl (by kernel_rfl) (by kernel_rfl) (by kernel_rfl) (fun _ _ _ h => h) (Or.inl ⟨by kernel_rfl, ?_⟩) hHeld ?_
          rotate_left
          · (intro w hSw; (try dsimp only at hSw); have e0 := cell_of_block hSw.1 0; have e1 := cell_of_block hSw.1 1; have e2 := cell_of_block hSw.1 2; have e3 := cell_of_block hSw.1 3; have e4 := cell_of_block hSw.1 4; have e5 := cell_of_block hSw.1 5; have g0 := cell_of_block hSw.2 0; have g1 := cell_of_block hSw.2 1; have g2 := cell_of_block hSw.2 2; have g3 := cell_of_block hSw.2 3; have g4 := cell_of_block hSw.2 4; have g5 := cell_of_block hSw.2 5; go_simp); try with_reducible rfl
          try simp only [Act.put, List.setIfInBounds_toArray, List.set_cons_zero, List.set_cons_succ]
          refine wpAnyH_take (i := 17) (oi := { dst := some 59, op := Op.build 43 #[], type := 43, pos := "law.go:50", after := #[{ on := 15, ground := Ground.guard }], guard := some (15, true) }) (v := ?_) rfl (by kernel_rfl) (by kernel_rfl) (by kernel_rfl) (fun _ _ _ h => h) (Or.inl ⟨by kernel_rfl, ?_⟩) hHeld ?_
          rotate_left
          · (intro w hSw; (try dsimp only at hSw); have e0 := cell_of_block hSw.1 0; have e1 := cell_of_block hSw.1 1; have e2 := cell_of_block hSw.1 2; have e3 := cell_of_block hSw.1 3; have e4 := cell_of_block hSw.1 4; have e5 := cell_of_block hSw.1 5; have g0 := cell_of_block hSw.2 0; have g1 := cell_of_block hSw.2 1; have g2 := cell_of_block hSw.2 2; have g3 := cell_of_block hSw.2 3; have g4 := cell_of_block hSw.2 4; have g5 := cell_of_block hSw.2 5; go_simp); try with_reducible rfl
          try simp only [Act.put, List.setIfInBounds_toArray, List.set_cons_zero, List.set_cons_succ]
          refine wpAnyH_take (i := 18) (oi := { dst := some 60, op := Op.binOp BinOp.neq 43 (Operand.tmp 58) (Operand.tmp 59) 43, type := 4, pos := "law.go:50", after := #[{ on := 16, ground := Ground.data }, { on := 17, ground := Ground.data }, { on := 15, ground := Ground.guard }], guard := some (15, true) }) (v := ?_) rfl (by kernel_rfl) (by kernel_rfl) (by kernel_rfl) (fun _ _ _ h => h) (Or.inl ⟨by kernel_rfl, ?_⟩) hHeld ?_
          rotate_left
          · (intro w hSw; (try dsimp only at hSw); have e0 := cell_of_block hSw.1 0; have e1 := cell_of_block hSw.1 1; have e2 := cell_of_block hSw.1 2; have e3 := cell_of_block hSw.1 3; have e4 := cell_of_block hSw.1 4; have e5 := cell_of_block hSw.1 5; have g0 := cell_of_block hSw.2 0; have g1 := cell_of_block hSw.2 1; have g2 := cell_of_block hSw.2 2; have g3 := cell_of_block hSw.2 3; have g4 := cell_of_block hSw.2 4; have g5 := cell_of_block hSw.2 5; go_simp); try with_reducible rfl
          try simp only [Act.put, List.setIfInBounds_toArray, List.set_cons_zero, List.set_cons_succ]
          refine wpAnyH_take (i := 19) (oi := { dst := some 61, op := Op.pick (Operand.tmp 57) (Operand.tmp 60) (Operand.const (Value.bool false)), type := 4, pos := "law.go:50", after := #[{ on := 15, ground := Ground.data }, { on := 18, ground := Ground.data }, { on := 12, ground := Ground.guard }], guard := some (12, false) }) (v := ?_) rfl (by kernel_rfl) (by kernel_rfl) (by kernel_rfl) (fun _ _ _ h => h) (Or.inl ⟨by kernel_rfl, ?_⟩) hHeld ?_
          rotate_left
          · (intro w hSw; (try dsimp only at hSw); have e0 := cell_of_block hSw.1 0; have e1 := cell_of_block hSw.1 1; have e2 := cell_of_block hSw.1 2; have e3 := cell_of_block hSw.1 3; have e4 := cell_of_block hSw.1 4; have e5 := cell_of_block hSw.1 5; have g0 := cell_of_block hSw.2 0; have g1 := cell_of_block hSw.2 1; have g2 := cell_of_block hSw.2 2; have g3 := cell_of_block hSw.2 3; have g4 := cell_of_block hSw.2 4; have g5 := cell_of_block hSw.2 5; go_simp); try with_reducible rfl
          try simp only [Act.put, List.setIfInBounds_toArray, List.set_cons_zero, List.set_cons_succ]
          refine wpAnyH_take (i := 20) (oi := { dst := some 62, op := Op.pick (Operand.tmp 54) (Operand.const (Value.bool true)) (Operand.tmp 61), type := 4, pos := "law.go:50", after := #[{ on := 12, ground := Ground.data }, { on := 19, ground := Ground.data }], guard := none }) (v := ?_) rfl (by kernel_rfl) (by kernel_rfl) (by kernel_rfl) (fun _ _ _ h => h) (Or.inl ⟨by kernel_rfl, ?_⟩) hHeld ?_
          rotate_left
          · (intro w hSw; (try dsimp only at hSw); have e0 := cell_of_block hSw.1 0; have e1 := cell_of_block hSw.1 1; have e2 := cell_of_block hSw.1 2; have e3 := cell_of_block hSw.1 3; have e4 := cell_of_block hSw.1 4; have e5 := cell_of_block hSw.1 5; have g0 := cell_of_block hSw.2 0; have g1 := cell_of_block hSw.2 1; have g2 := cell_of_block hSw.2 2; have g3 := cell_of_block hSw.2 3; have g4 := cell_of_block hSw.2 4; have g5 := cell_of_block hSw.2 5; go_simp); try with_reducible rfl
          try simp only [Act.put, List.setIfInBounds_toArray, List.set_cons_zero, List.set_cons_succ]
          refine wpAnyH_done (by kernel_rfl) ?_ _
          clear hHeld
          go_wp2_with fail
          go_roundw
          case rel => exact ⟨k + 1, by omega, by rw [← HN.out]; go_num <;> omega, XM.out, XW0.out, BB0.out⟩
          case measure => have := HN.out; simp [intOf]; omega
      · obtain rfl : k = 14 := by omega
        have hl1 : ¬ next - 12 + ((14 : Nat) : Int) < next + 2 := by omega
        go_wp2_with fail
        go_ret
        exact ⟨rfl, BW.out⟩
end Go.Proofs.Ytfdgfeohmkdnoaa
