/-
  Layer 28: replies read: kinds 12 and 3.
-/
import Derived.Test.YtkbikflincjhhaaRepX

namespace Go.Proofs.Ytkbikflincjhhaa
set_option linter.unusedSimpArgs false
set_option linter.unusedVariables false
open Go.RowKit Go.WideShapes Go.ChangeShapes Go.ChangeAt Go.Deep
theorem tot_iff (ok : Bool) (l : List UInt8) : (sO (ok && decide (4 ≤ l.length)) (l.drop 4) 5 = true ∧ sL (l.drop 4) 5 = []) ↔ (ok = true ∧ l.length = 44) := by
  rw [sO_is]
  unfold sL
  simp only [Bool.and_eq_true, decide_eq_true_eq, List.length_drop, List.drop_drop]
  constructor
  · rintro ⟨⟨⟨h1, h2⟩, h3⟩, h4⟩
    have := congrArg List.length h4
    rw [List.length_drop] at this
    simp only [List.length_nil] at this
    exact ⟨h1, by omega⟩
  · rintro ⟨h1, h2⟩
    exact ⟨⟨⟨h1, by omega⟩, by omega⟩, List.drop_of_length_le (by omega)⟩
theorem fl_drop (l : List UInt8) (a o w : Nat) : fl (l.drop a) o w = fl l (a + o) w := by unfold fl; rw [List.drop_drop]
theorem tot_val (ok : Bool) (l : List UInt8) (hok : ok = true) (h : l.length = 44) : vN ok l 4 = fl l 0 4 ∧ ∀ j, j < 5 → sV (ok && decide (4 ≤ l.length)) (l.drop 4) j = wrap64 (fl l (4 + 8 * j) 8 : Int) := by
  subst hok
  refine ⟨by rw [vN_true _ _ (by omega)]; unfold fl; rw [List.drop_zero], fun j hj => ?_⟩
  rw [show decide (4 ≤ l.length) = true from decide_eq_true (by omega), Bool.and_self, sV_true _ _ (by rw [List.length_drop]; omega), fl_drop]
set_option maxRecDepth 100000 in
set_option maxHeartbeats 1000000 in
theorem rrd12 : RReads 12 := by
  intro p rb ra ok l w W h
  have F0 := hide h
  clear h
  have HC1 := hide (fun W hw => rdTot_any p ok l W hw)
  unfold RTotIs rowK at HC1
  have HI := hide (tot_iff ok l)
  have HV := hide (fun h1 h2 => tot_val ok l h1 h2)
  generalize hv0 : (vN ok (l) 4 : Int) = t0 at HC1
  generalize hv1 : sV (ok && decide (4 ≤ (l).length)) ((l).drop 4) 0 = t1 at HC1
  generalize hv2 : sV (ok && decide (4 ≤ (l).length)) ((l).drop 4) 1 = t2 at HC1
  generalize hv3 : sV (ok && decide (4 ≤ (l).length)) ((l).drop 4) 2 = t3 at HC1
  generalize hv4 : sV (ok && decide (4 ≤ (l).length)) ((l).drop 4) 3 = t4 at HC1
  generalize hv5 : sV (ok && decide (4 ≤ (l).length)) ((l).drop 4) 4 = t5 at HC1
  have HV0 := hide hv0
  have HV1 := hide hv1
  have HV2 := hide hv2
  have HV3 := hide hv3
  have HV4 := hide hv4
  have HV5 := hide hv5
  clear hv0 hv1 hv2 hv3 hv4 hv5
  generalize sO _ _ 5 = ok5 at *
  generalize sL _ 5 = l5 at *
  go_enter Try.func33, Try.ntmps33
  go_wp2_with fail
  refine (HC1.out _ F0.out.rq).mono ?_
  rintro e w1 ⟨rfl, hr, ho⟩
  have F1 := hide (F0.out.step hr ho)
  clear hr ho HC1
  have e2 := cell_of_block F1.out.box 2
  have z2 := frozen_of_block F1.out.box 2
  have e3 := cell_of_block F1.out.box 3
  have z3 := frozen_of_block F1.out.box 3
  have e4 := cell_of_block F1.out.box 4
  have z4 := frozen_of_block F1.out.box 4
  have e5 := cell_of_block F1.out.box 5
  have z5 := frozen_of_block F1.out.box 5
  have e6 := cell_of_block F1.out.box 6
  have z6 := frozen_of_block F1.out.box 6
  have e7 := cell_of_block F1.out.box 7
  have z7 := frozen_of_block F1.out.box 7
  have F2 := hide (show RpF w ((((((w1.setCell ⟨rb, 2, none⟩ (.int .i64 t0)).setCell ⟨rb, 3, none⟩ (.int .i64 t1)).setCell ⟨rb, 4, none⟩ (.int .i64 t2)).setCell ⟨rb, 5, none⟩ (.int .i64 t3)).setCell ⟨rb, 6, none⟩ (.int .i64 t4)).setCell ⟨rb, 7, none⟩ (.int .i64 t5)) p rb ra _ _ #[.int .i64 0, .int .i64 0, .int .i64 t0, .int .i64 t1, .int .i64 t2, .int .i64 t3, .int .i64 t4, .int .i64 t5, .int .i64 0, .int .u8 0, .int .i64 0, .int .i64 0, .int .i64 0, .int .i64 0, .bool false, .slice none 0 0, .int .i64 0, .int .i64 0, .bool false] from ((((((F1.out.store 2 (.int .i64 t0)).store 3 (.int .i64 t1)).store 4 (.int .i64 t2)).store 5 (.int .i64 t3)).store 6 (.int .i64 t4)).store 7 (.int .i64 t5)))
  go_wp2_with fail
  go_ret
  refine ⟨{ rp0 with c := t0, s := t1, v := t2, r := t3, i := t4, o := t5 }, none, 0, true, _, _, rfl, F2.out, LnFrom.nil _ _ _, ?_, fun hok hd => ?_⟩
  · rw [show repD 12 l = decide (l.length = 44) from rfl, decide_eq_true_eq]
    exact ⟨fun h => HI.out.1 h.2, fun h => ⟨rfl, HI.out.2 h⟩⟩
  · rw [show repD 12 l = decide (l.length = 44) from rfl, decide_eq_true_eq] at hd
    obtain ⟨y0, y1⟩ := HV.out hok hd
    rw [← HV0.out, ← HV1.out, ← HV2.out, ← HV3.out, ← HV4.out, ← HV5.out, y0, y1 0 (by omega), y1 1 (by omega), y1 2 (by omega), y1 3 (by omega), y1 4 (by omega)]
    rfl
set_option maxRecDepth 100000 in
set_option maxHeartbeats 1000000 in
theorem rrd3 : RReads 3 := by
  intro p rb ra ok l w W h
  have F0 := hide h
  clear h
  have HC0 := hide (fun W hw => rq_number p ok l 4 (by decide) (by decide) W hw)
  unfold RNIs at HC0
  have HC1 := hide (fun W hw => rdTot_any p (ok && decide (4 ≤ l.length)) (l.drop 4) W hw)
  unfold RTotIs rowK at HC1
  have HI := hide (tot_iff (ok && decide (4 ≤ l.length)) (l.drop 4))
  have HV := hide (fun h1 h2 => tot_val (ok && decide (4 ≤ l.length)) (l.drop 4) h1 h2)
  generalize hv0 : (vN (ok && decide (4 ≤ l.length)) (l.drop 4) 4 : Int) = t0 at HC1
  generalize hv1 : sV ((ok && decide (4 ≤ l.length)) && decide (4 ≤ (l.drop 4).length)) ((l.drop 4).drop 4) 0 = t1 at HC1
  generalize hv2 : sV ((ok && decide (4 ≤ l.length)) && decide (4 ≤ (l.drop 4).length)) ((l.drop 4).drop 4) 1 = t2 at HC1
  generalize hv3 : sV ((ok && decide (4 ≤ l.length)) && decide (4 ≤ (l.drop 4).length)) ((l.drop 4).drop 4) 2 = t3 at HC1
  generalize hv4 : sV ((ok && decide (4 ≤ l.length)) && decide (4 ≤ (l.drop 4).length)) ((l.drop 4).drop 4) 3 = t4 at HC1
  generalize hv5 : sV ((ok && decide (4 ≤ l.length)) && decide (4 ≤ (l.drop 4).length)) ((l.drop 4).drop 4) 4 = t5 at HC1
  have HV0 := hide hv0
  have HV1 := hide hv1
  have HV2 := hide hv2
  have HV3 := hide hv3
  have HV4 := hide hv4
  have HV5 := hide hv5
  clear hv0 hv1 hv2 hv3 hv4 hv5
  generalize sO _ _ 5 = ok5 at *
  generalize sL _ 5 = l5 at *
  obtain ⟨n1, hn1⟩ : ∃ n : Nat, vN ok l 4 = n := ⟨_, rfl⟩
  have hbn1 := vN_lt ok l 4
  rw [hn1] at HC0 hbn1
  have HN1 := hide hn1
  obtain ⟨cn1a, cn1b⟩ := wr_i64 n1 (by omega)
  clear hn1 hbn1
  go_enter Try.func33, Try.ntmps33
  go_wp2_with fail
  refine (HC0.out _ F0.out.rq).mono ?_
  rintro e w1 ⟨rfl, hr, ho⟩
  have F1 := hide (F0.out.step hr ho)
  clear hr ho HC0
  have e1 := cell_of_block F1.out.box 1
  have z1 := frozen_of_block F1.out.box 1
  have F2 := hide (show RpF w (w1.setCell ⟨rb, 1, none⟩ (.int .i64 (n1 : Int))) p rb ra _ _ #[.int .i64 0, .int .i64 (n1 : Int), .int .i64 0, .int .i64 0, .int .i64 0, .int .i64 0, .int .i64 0, .int .i64 0, .int .i64 0, .int .u8 0, .int .i64 0, .int .i64 0, .int .i64 0, .int .i64 0, .bool false, .slice none 0 0, .int .i64 0, .int .i64 0, .bool false] from F1.out.store 1 (.int .i64 (n1 : Int)))
  go_wp2_with fail
  refine (HC1.out _ F2.out.rq).mono ?_
  rintro e w3 ⟨rfl, hr, ho⟩
  have F3 := hide (F2.out.step hr ho)
  clear hr ho HC1 e1 z1
  have e2 := cell_of_block F3.out.box 2
  have z2 := frozen_of_block F3.out.box 2
  have e3 := cell_of_block F3.out.box 3
  have z3 := frozen_of_block F3.out.box 3
  have e4 := cell_of_block F3.out.box 4
  have z4 := frozen_of_block F3.out.box 4
  have e5 := cell_of_block F3.out.box 5
  have z5 := frozen_of_block F3.out.box 5
  have e6 := cell_of_block F3.out.box 6
  have z6 := frozen_of_block F3.out.box 6
  have e7 := cell_of_block F3.out.box 7
  have z7 := frozen_of_block F3.out.box 7
  have F4 := hide (show RpF w ((((((w3.setCell ⟨rb, 2, none⟩ (.int .i64 t0)).setCell ⟨rb, 3, none⟩ (.int .i64 t1)).setCell ⟨rb, 4, none⟩ (.int .i64 t2)).setCell ⟨rb, 5, none⟩ (.int .i64 t3)).setCell ⟨rb, 6, none⟩ (.int .i64 t4)).setCell ⟨rb, 7, none⟩ (.int .i64 t5)) p rb ra _ _ #[.int .i64 0, .int .i64 (n1 : Int), .int .i64 t0, .int .i64 t1, .int .i64 t2, .int .i64 t3, .int .i64 t4, .int .i64 t5, .int .i64 0, .int .u8 0, .int .i64 0, .int .i64 0, .int .i64 0, .int .i64 0, .bool false, .slice none 0 0, .int .i64 0, .int .i64 0, .bool false] from ((((((F3.out.store 2 (.int .i64 t0)).store 3 (.int .i64 t1)).store 4 (.int .i64 t2)).store 5 (.int .i64 t3)).store 6 (.int .i64 t4)).store 7 (.int .i64 t5)))
  go_wp2_with fail
  go_ret
  refine ⟨{ rp0 with num := n1, c := t0, s := t1, v := t2, r := t3, i := t4, o := t5 }, none, 0, true, _, _, rfl, F4.out, LnFrom.nil _ _ _, ?_, fun hok hd => ?_⟩
  · rw [show repD 3 l = decide (l.length = 48) from rfl, decide_eq_true_eq]
    have hi := HI.out
    simp only [Bool.and_eq_true, decide_eq_true_eq, List.length_drop] at hi
    constructor
    · intro h
      obtain ⟨⟨h1, h2⟩, h3⟩ := hi.1 h.2
      exact ⟨h1, by omega⟩
    · intro h
      exact ⟨rfl, hi.2 ⟨⟨h.1, by omega⟩, by omega⟩⟩
  · rw [show repD 3 l = decide (l.length = 48) from rfl, decide_eq_true_eq] at hd
    obtain ⟨y0, y1⟩ := HV.out (by rw [hok, show decide (4 ≤ l.length) = true from decide_eq_true (by omega)]; rfl) (by rw [List.length_drop]; omega)
    have yn : n1 = fl l 0 4 := by rw [← HN1.out, hok, vN_true _ _ (by omega)]; unfold fl; rw [List.drop_zero]
    rw [yn, ← HV0.out, ← HV1.out, ← HV2.out, ← HV3.out, ← HV4.out, ← HV5.out, y0, y1 0 (by omega), y1 1 (by omega), y1 2 (by omega), y1 3 (by omega), y1 4 (by omega)]
    simp only [fl_drop]
    rfl
end Go.Proofs.Ytkbikflincjhhaa
