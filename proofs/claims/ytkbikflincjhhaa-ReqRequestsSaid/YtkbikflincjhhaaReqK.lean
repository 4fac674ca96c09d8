/-
  Layer 28: what the document fixes (wakes).
-/
import Derived.Test.YtkbikflincjhhaaRep2

namespace Go.Proofs.Ytkbikflincjhhaa
set_option linter.unusedSimpArgs false
set_option linter.unusedVariables false
open Go.RowKit Go.WideShapes Go.ChangeShapes Go.ChangeAt Go.Deep
theorem plain2 : Plain 2 := Or.inr (Or.inl rfl)
theorem rwr2 : RWrites 2 := fun x hx a cap q w0 w hin hlow T hW hB => rwr_plain 2 plain2 x hx a cap q w0 w hin hlow T hW hB
theorem rrd2 : RReads 2 := fun p rb ra ok l w W h => rrd_plain 2 plain2 p rb ra ok l w W h
theorem rp_build1 (n : Int) (w : World) : (Instr.build 71 #[(1, .int .i64 n)]).run Try.prog w = .ok (.agg (rpC { rp0 with num := n } (.slice none 0 0))) w := by kernel_rfl
theorem rqz : RqOk rq0 := ⟨by decide, by decide, by unfold inR; decide, by unfold inR; decide, by unfold inR; decide, by decide, by decide, (fun x hx => by cases hx), by decide, by unfold inR; decide⟩
theorem rq0_ok (k : Int) (hk : 0 ≤ k ∧ k ≤ 255) : RqOk { rq0 with k := k } := { rqz with k := hk }
theorem rpz : RpOk rp0 := ⟨by unfold inR; decide, by unfold inR; decide, by unfold inR; decide, by unfold inR; decide, by unfold inR; decide, by unfold inR; decide, by unfold inR; decide, by unfold inR; decide, by unfold inR; decide, by decide, by unfold inR; decide, by unfold inR; decide, by unfold inR; decide, by unfold inR; decide, (fun x hx => by cases hx), by decide, by unfold inR; decide, by unfold inR; decide⟩
theorem rp0_ok (n : Int) (hn : inR n) : RpOk { rp0 with num := n } := { rpz with num := hn }
theorem rpC_num (x : RpM) (lv : Value) : (rpC x lv)[1]? = some (.int .i64 x.num) := rfl
theorem dec2 : decO [2] = true ∧ decX [2] = { rq0 with k := 2, ek := 2 } := by
  have h : decO [2] = true := by decide +kernel
  exact ⟨h, (dec_yes h).2.trans (decR_2 (by decide))⟩
theorem par2 : parE 2 [0, 0, 0, 0, 1] = 0 ∧ (parX 2 [0, 0, 0, 0, 1]).num = 1 := by
  have h : parO 2 [0, 0, 0, 0, 1] = true := by decide +kernel
  refine ⟨(par_yes h).1, ?_⟩
  rw [(par_yes h).2]
  decide +kernel
set_option maxRecDepth 100000 in
set_option maxHeartbeats 1000000 in
theorem wakes28 (w : World) : Calls Try.prog 13 #[] w fun e w' => e = .returned (.bool true) ∧ Below w.heap.size w w' := by
  have HE1 := hide (fun W => show Calls Try.prog 8 #[.agg #[.int .u8 2, .int .u8 0, .int .u64 0, .int .i64 0, .int .i64 0, .int .i64 0, .int .u8 0, .string ⟨#[]⟩, .slice none 0 0, .int .i64 0]] W fun e w' => e = .returned (.tuple #[.string ⟨#[2]⟩, .int .i64 0]) ∧ Below W.heap.size W w' from
    (enc_any { rq0 with k := 2 } (rq0_ok 2 (by decide)) none 0 W (fun i hi => absurd hi (Nat.not_lt_zero i))).mono fun e w' ⟨h1, h2⟩ => ⟨h1.trans (by rfl), h2⟩)
  have HD1 := hide (fun W => show Calls Try.prog 10 #[.string ⟨#[2]⟩] W fun e w' => (∃ a c, e = .returned (.tuple #[.agg #[.int .u8 2, .int .u8 2, .int .u64 0, .int .i64 0, .int .i64 0, .int .i64 0, .int .u8 0, .string ⟨#[]⟩, .slice a 0 c, .int .i64 0], .int .i64 0])) ∧ Below W.heap.size W w' from
    (dec_any [2] (by decide) W).mono fun e w' ⟨a, c, h1, h2, h3⟩ => ⟨⟨a, c, by rw [h1, dec2.2, (dec_yes dec2.1).1]; rfl⟩, h3⟩)
  have HE2 := hide (fun W => show Calls Try.prog 15 #[.agg (rpC { rp0 with num := 1 } (.slice none 0 0)), .int .u8 2] W fun e w' => e = .returned (.string ⟨#[0, 0, 0, 0, 1]⟩) ∧ Below W.heap.size W w' from
    (renc_any 2 (by decide) rwr2 { rp0 with num := 1 } (rp0_ok 1 (by unfold inR; decide)) none 0 W (fun i hi => absurd hi (Nat.not_lt_zero i))).mono fun e w' ⟨h1, h2⟩ => ⟨h1.trans (by rfl), h2⟩)
  have HD2 := hide (fun W => show Calls Try.prog 16 #[.int .u8 2, .string ⟨#[0, 0, 0, 0, 1]⟩] W fun e w' => (∃ a c, e = .returned (.tuple #[.agg (rpC (parX 2 [0, 0, 0, 0, 1]) (.slice a (parX 2 [0, 0, 0, 0, 1]).L.length c)), .int .i64 0])) ∧ Below W.heap.size W w' from
    (par_any 2 (by decide) rrd2 [0, 0, 0, 0, 1] (by decide) W).mono fun e w' ⟨a, c, h1, h2, h3⟩ => ⟨⟨a, c, by rw [h1, par2.1]⟩, h3⟩)
  have HNUM := hide par2.2
  generalize parX 2 [0, 0, 0, 0, 1] = x at *
  go_enter Try.func13, Try.ntmps13
  go_wp2_with fail
  refine (HE1.out _).mono ?_
  rintro e w1 ⟨rfl, hb⟩
  have B1 := hide hb
  clear hb HE1
  go_wp2_with fail
  refine (HD1.out _).mono ?_
  rintro e w2 ⟨⟨a, c, rfl⟩, hb⟩
  have hal := (Below.refl w2.heap.size w2).alloc (Nat.le_refl _) (.cells #[.int .u8 2, .int .u8 2, .int .u64 0, .int .i64 0, .int .i64 0, .int .i64 0, .int .u8 0, .string ⟨#[]⟩, .slice a 0 c, .int .i64 0] 39)
  have X2 := hide (heap_new w2 (.cells #[.int .u8 2, .int .u8 2, .int .u64 0, .int .i64 0, .int .i64 0, .int .i64 0, .int .u8 0, .string ⟨#[]⟩, .slice a 0 c, .int .i64 0] 39))
  have B2 := hide ((B1.out.trans (hb.mono B1.out.size)).trans (hal.mono (Nat.le_trans B1.out.size hb.size)))
  clear hb hal HD1 B1
  go_upto_region 3 with (fail)
  generalize w2.alloc (.cells #[.int .u8 2, .int .u8 2, .int .u64 0, .int .i64 0, .int .i64 0, .int .i64 0, .int .u8 0, .string ⟨#[]⟩, .slice a 0 c, .int .i64 0] 39) = w3 at *
  generalize w2.heap.size = db at *
  go_wp2_with ((with_reducible show wpList _ _ _ _ _ w3); refine wpList_oneBuild rfl 71 (.const (.int .i64 1)) 1 rfl (.int .i64 1) rfl (.agg (rpC { rp0 with num := 1 } (.slice none 0 0))) (rp_build1 _ _) ?_)
  refine (HE2.out _).mono ?_
  rintro e w4 ⟨rfl, hb⟩
  have X4 := hide ((hb.block _ (heap_lt X2.out)).trans X2.out)
  have B4 := hide (B2.out.trans (hb.mono B2.out.size))
  clear hb HE2 X2 B2
  go_wp2_with fail
  refine (HD2.out _).mono ?_
  rintro e w5 ⟨⟨a, c, rfl⟩, hb⟩
  have X5 := hide ((hb.block _ (heap_lt X4.out)).trans X4.out)
  have B5 := hide (B4.out.trans (hb.mono B4.out.size))
  have HNW := hide (heap_new w5 (.cells (rpC rp0 (.slice none 0 0)) 71))
  clear hb HD2 X4 B4
  go_upto_region 5 with (first | ((with_reducible show wpList _ _ _ _ _ w5); refine wpList_theAlloc rfl 71 rfl (.pointer (some ⟨w5.heap.size, 0, none⟩)) (w5.alloc (.cells (rpC rp0 (.slice none 0 0)) 71)) (rp_alloc _) ?_) | ((with_reducible show wpList _ _ _ _ _ (World.alloc _ _)); refine wpList_rowStore rfl 71 (.tmp 6) (.tmp 22) rfl w5.heap.size rfl (rpC x (.slice a x.L.length c)) rfl (rpC rp0 (.slice none 0 0)) HNW.out (rpC_info _ _) rfl (rpC_one _ _ _ _) ?_))
  rw [World.setRow_alloc_new]
  have hal := (Below.refl w5.heap.size w5).alloc (Nat.le_refl _) (.cells (rpC x (.slice a x.L.length c)) 71)
  have X6 := hide ((hal.block _ (heap_lt X5.out)).trans X5.out)
  have Y6 := hide (heap_new w5 (.cells (rpC x (.slice a x.L.length c)) 71))
  have B6 := hide (B5.out.trans (hal.mono B5.out.size))
  clear hal X5 B5 HNW
  generalize w5.alloc (.cells (rpC x (.slice a x.L.length c)) 71) = w6 at *
  generalize w5.heap.size = pb at *
  have e0 := cell_of_block X6.out 0
  have e1 := cell_of_block X6.out 1
  have g1 : w6.cell? ⟨pb, 1, none⟩ = some (.int .i64 1) := by rw [← HNUM.out]; exact (cell_of_block Y6.out 1).trans (rpC_num _ _)
  go_wp2_with fail
  go_ret
  exact ⟨rfl, B6.out⟩
end Go.Proofs.Ytkbikflincjhhaa
