/-
  Layer 28: replies read: kind 11.
-/
import Derived.Test.YtkbikflincjhhaaRepZ

namespace Go.Proofs.Ytkbikflincjhhaa
set_option linter.unusedSimpArgs false
set_option linter.unusedVariables false
open Go.RowKit Go.WideShapes Go.ChangeShapes Go.ChangeAt Go.Deep
theorem repD_tx (l : List UInt8) : repD 11 l = decide (27 ≤ l.length ∧ (l.getD 25 0).toNat ≤ 1 ∧ (l.getD 26 0).toNat ≤ 8 ∧ l.length = 27 + 10 * (l.getD 26 0).toNat) := rfl
theorem drop_at (l : List UInt8) (k : Nat) : (l.drop k).getD 0 0 = l.getD k 0 := by simp [List.getD]
theorem one_at (l : List UInt8) (k : Nat) (h : k < l.length) : vN true (l.drop k) 1 = (l.getD k 0).toNat := by
  rw [vN_true _ _ (by rw [List.length_drop]; omega)]
  have e : (l.drop k).take 1 = [l[k]] := by rw [List.drop_eq_getElem_cons h]; rfl
  rw [e]
  simp [getN, List.getD, h]
theorem oN_yes (l : List UInt8) (k : Nat) (h : k ≤ l.length) : oN true l k = true := by unfold oN; rw [decide_eq_true h]; rfl
theorem aN_yes (l : List UInt8) (k m : Nat) (h : k + m ≤ l.length) : aN true l k m = fl l k m := by
  unfold aN
  rw [oN_yes _ _ (by omega), vN_fl _ _ _ h]
theorem tx_iff (ok : Bool) (l : List UInt8) (ok' : Bool) (l' : List UInt8) (hq : poOk (oN ok l 26) (l.drop 26) = true → ok' = true ∧ l' = (l.drop 26).drop (1 + 10 * ((l.drop 26).getD 0 0).toNat)) :
    ((decide ((aN ok l 25 1 : Int) ≤ 1) && poOk (oN ok l 26) (l.drop 26)) = true ∧ ok' = true ∧ l' = []) ↔ (ok = true ∧ repD 11 l = true) := by
  rw [repD_tx, decide_eq_true_eq]
  have hP : poOk (oN ok l 26) (l.drop 26) = true ↔ (ok = true ∧ 26 ≤ l.length) ∧ 1 ≤ l.length - 26 ∧ (l.getD 26 0).toNat ≤ 8 ∧ 1 + 10 * (l.getD 26 0).toNat ≤ l.length - 26 := by
    unfold poOk oN
    rw [drop_at, List.length_drop]
    simp only [Bool.and_eq_true, decide_eq_true_eq]
  rw [drop_at, List.drop_drop] at hq
  rw [Bool.and_eq_true, decide_eq_true_eq]
  constructor
  · rintro ⟨⟨h1, h2⟩, h3, h4⟩
    obtain ⟨-, q2⟩ := hq h2
    obtain ⟨⟨p1, p2⟩, p3, p4, p5⟩ := hP.1 h2
    subst p1
    rw [q2] at h4
    have h5 := congrArg List.length h4
    rw [List.length_drop] at h5
    simp only [List.length_nil] at h5
    unfold aN at h1
    rw [oN_yes _ _ (by omega), one_at _ _ (by omega)] at h1
    exact ⟨rfl, by omega, by omega, p4, by omega⟩
  · rintro ⟨p1, p2, p3, p4, p5⟩
    subst p1
    have h2 := hP.2 ⟨⟨rfl, by omega⟩, by omega, p4, by omega⟩
    obtain ⟨q1, q2⟩ := hq h2
    refine ⟨⟨?_, h2⟩, q1, ?_⟩
    · unfold aN
      rw [oN_yes _ _ (by omega), one_at _ _ (by omega)]
      omega
    · rw [q2]
      exact List.drop_of_length_le (by omega)
theorem tx_val (ok : Bool) (l : List UInt8) (hok : ok = true) (h : repD 11 l = true) :
    ({ rp0 with tk := (aN ok l 0 1 : Int), tsh := (aN ok l 1 4 : Int), tr := (aN ok l 5 4 : Int), ta := wrap64 (aN ok l 9 8 : Int), tl := wrap64 (aN ok l 17 8 : Int), tv := ((aN ok l 25 1 : Int) == 1), L := poL (oN ok l 26) (l.drop 26) } : RpM) = repR 11 l := by
  subst hok
  rw [repD_tx, decide_eq_true_eq] at h
  obtain ⟨p2, p3, p4, p5⟩ := h
  rw [aN_yes _ _ _ (by omega), aN_yes _ _ _ (by omega), aN_yes _ _ _ (by omega), aN_yes _ _ _ (by omega), aN_yes _ _ _ (by omega), aN_yes _ _ _ (by omega), oN_yes _ _ (by omega)]
  have hP : poOk true (l.drop 26) = true := by
    unfold poOk
    rw [drop_at, List.length_drop, Bool.true_and]
    exact decide_eq_true ⟨by omega, p4, by omega⟩
  have hL : poL true (l.drop 26) = readL (bs (l.drop 26)) (l.getD 26 0).toNat := by
    unfold poL
    rw [if_pos hP, drop_at]
  have hb : ((fl l 25 1 : Int) == 1) = decide (fl l 25 1 = 1) := by
    rw [Bool.eq_iff_iff, beq_iff_eq, decide_eq_true_eq]; omega
  rw [hL, hb]
  rfl
set_option maxRecDepth 100000 in
set_option maxHeartbeats 1000000 in
theorem rrd11 : RReads 11 := by
  intro p rb ra ok l w W h
  have F0 := hide h
  clear h
  have HC1 := hide (fun W hw => rdTx_any p ok l W hw)
  have HI := hide (fun ok' l' hq => tx_iff ok l ok' l' hq)
  have HV := hide (fun h1 h2 => tx_val ok l h1 h2)
  unfold RTxIs RTxQ at HC1
  generalize aN ok l 0 1 = n1 at *
  generalize aN ok l 1 4 = n2 at *
  generalize aN ok l 5 4 = n3 at *
  generalize aN ok l 9 8 = n4 at *
  generalize aN ok l 17 8 = n5 at *
  generalize ((aN ok l 25 1 : Int) == 1) = f1 at *
  generalize (decide ((aN ok l 25 1 : Int) ≤ 1) && poOk (oN ok l 26) (l.drop 26)) = f2 at *
  generalize poL (oN ok l 26) (l.drop 26) = PL at *
  go_enter Try.func33, Try.ntmps33
  go_wp2_with fail
  refine (HC1.out _ F0.out.rq).mono ?_
  rintro e w1 ⟨a, c, rfl, hl, ⟨ok', l', hr, hq⟩, ho⟩
  have F1 := hide (F0.out.step hr ho)
  have hrb : rb < W.heap.size := heap_lt F0.out.box
  have hra : ra < W.heap.size := heap_lt F0.out.res
  have LN := hide (((((((((hl.set hrb 8 (.int .i64 0)).set hrb 9 (.int .u8 (n1 : Int))).set hrb 10 (.int .i64 (n2 : Int))).set hrb 11 (.int .i64 (n3 : Int))).set hrb 12 (.int .i64 (wrap64 (n4 : Int)))).set hrb 13 (.int .i64 (wrap64 (n5 : Int)))).set hrb 14 (.bool f1)).set hrb 15 (.slice a PL.length c)).mono (show max rb ra + 1 ≤ W.heap.size by omega))
  have HQ := hide (HI.out ok' l' hq)
  clear hr ho hl hq hrb hra HC1 HI
  have e8 := cell_of_block F1.out.box 8
  have z8 := frozen_of_block F1.out.box 8
  have e9 := cell_of_block F1.out.box 9
  have z9 := frozen_of_block F1.out.box 9
  have e10 := cell_of_block F1.out.box 10
  have z10 := frozen_of_block F1.out.box 10
  have e11 := cell_of_block F1.out.box 11
  have z11 := frozen_of_block F1.out.box 11
  have e12 := cell_of_block F1.out.box 12
  have z12 := frozen_of_block F1.out.box 12
  have e13 := cell_of_block F1.out.box 13
  have z13 := frozen_of_block F1.out.box 13
  have e14 := cell_of_block F1.out.box 14
  have z14 := frozen_of_block F1.out.box 14
  have e15 := cell_of_block F1.out.box 15
  have z15 := frozen_of_block F1.out.box 15
  have F2 := hide (show RpF w ((((((((w1.setCell ⟨rb, 8, none⟩ (.int .i64 0)).setCell ⟨rb, 9, none⟩ (.int .u8 (n1 : Int))).setCell ⟨rb, 10, none⟩ (.int .i64 (n2 : Int))).setCell ⟨rb, 11, none⟩ (.int .i64 (n3 : Int))).setCell ⟨rb, 12, none⟩ (.int .i64 (wrap64 (n4 : Int)))).setCell ⟨rb, 13, none⟩ (.int .i64 (wrap64 (n5 : Int)))).setCell ⟨rb, 14, none⟩ (.bool f1)).setCell ⟨rb, 15, none⟩ (.slice a PL.length c)) p rb ra _ _ #[.int .i64 0, .int .i64 0, .int .i64 0, .int .i64 0, .int .i64 0, .int .i64 0, .int .i64 0, .int .i64 0, .int .i64 0, .int .u8 (n1 : Int), .int .i64 (n2 : Int), .int .i64 (n3 : Int), .int .i64 (wrap64 (n4 : Int)), .int .i64 (wrap64 (n5 : Int)), .bool f1, .slice a PL.length c, .int .i64 0, .int .i64 0, .bool false] from ((((((((F1.out.store 8 (.int .i64 0)).store 9 (.int .u8 (n1 : Int))).store 10 (.int .i64 (n2 : Int))).store 11 (.int .i64 (n3 : Int))).store 12 (.int .i64 (wrap64 (n4 : Int)))).store 13 (.int .i64 (wrap64 (n5 : Int)))).store 14 (.bool f1)).store 15 (.slice a PL.length c)))
  go_wp2_with fail
  go_ret
  exact ⟨{ rp0 with tk := (n1 : Int), tsh := (n2 : Int), tr := (n3 : Int), ta := wrap64 (n4 : Int), tl := wrap64 (n5 : Int), tv := f1, L := PL }, a, c, f2, _, _, rfl, F2.out, LN.out, HQ.out, fun h1 h2 => HV.out h1 h2⟩
end Go.Proofs.Ytkbikflincjhhaa
