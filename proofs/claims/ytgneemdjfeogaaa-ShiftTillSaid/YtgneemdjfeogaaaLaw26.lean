/-
  Layer 26's laws, walked and closed: ShiftTill.
-/
import Derived.Test.YtgneemdjfeogaaaRShift
import Derived.Test.YtgneemdjfeogaaaShift3
--import Derived.Test.Zdbg
namespace Go.Proofs.Ytgneemdjfeogaaa
set_option linter.unusedSimpArgs false
set_option linter.unusedVariables false
open Go.RowKit Go.WideShapes Go.ChangeShapes Go.ChangeAt Go.Deep

set_option maxRecDepth 100000 in
set_option maxHeartbeats 1000000 in
theorem shiftTill_five (c s v r i o : Int) (hs : inR s) (hv : inR v) (hr : inR r) (hi : inR i) (ho : inR o) (w : World) :
    Calls Try.prog 3 #[.int .i64 c, .agg #[.int .i64 s, .int .i64 v, .int .i64 r, .int .i64 i, .int .i64 o]] w fun e w' => e = .returned (.bool true) ∧ Below w.heap.size w w' := by
  have HT := hide (fun W => till_any c s v r i o hs hv hr hi ho W)
  have HO := hide (fun W => of_any c s v r i o W)
  have HRT := hide (fun W => rtill_any c s v r i o hs hv hr hi ho W)
  clear hs hv hr hi ho
  unfold totA at HT HO HRT
  generalize sumV (s + i - v - r - o) = x at *
  generalize sumE (s + i - v - r - o) = y at *
  go_enter Try.func3, Try.ntmps3
  go_wp2_with fail
  have hal1 := (Below.refl w.heap.size w).alloc (Nat.le_refl _) (.cells #[.int .i64 s, .int .i64 v, .int .i64 r, .int .i64 i, .int .i64 o] 22)
  have hal := hal1.alloc (by simp) (.cells #[.int .i64 c, .int .i64 s, .int .i64 v, .int .i64 r, .int .i64 i, .int .i64 o] 25)
  have hnew := heap_new (w.alloc (.cells #[.int .i64 s, .int .i64 v, .int .i64 r, .int .i64 i, .int .i64 o] 22)) (.cells #[.int .i64 c, .int .i64 s, .int .i64 v, .int .i64 r, .int .i64 i, .int .i64 o] 25)
  rw [show (w.alloc (.cells #[.int .i64 s, .int .i64 v, .int .i64 r, .int .i64 i, .int .i64 o] 22)).heap.size = w.heap.size + 1 by simp] at hnew
  have XT := hide hnew
  have B1 := hide hal
  clear hal hal1 hnew
  generalize (w.alloc (.cells #[.int .i64 s, .int .i64 v, .int .i64 r, .int .i64 i, .int .i64 o] 22)).alloc (.cells #[.int .i64 c, .int .i64 s, .int .i64 v, .int .i64 r, .int .i64 i, .int .i64 o] 25) = w1 at *
  refine (HT.out _).mono ?_
  rintro e w2 ⟨rfl, hb⟩
  have XT2 := hide ((hb.block _ (heap_lt XT.out)).trans XT.out)
  have B2 := hide (B1.out.trans (hb.mono B1.out.size))
  clear hb XT B1
  obtain ⟨⟨t0, t1, t2, t3, t4, t5⟩, -⟩ := six_facts XT2.out
  go_wp2_with fail
  refine (HO.out _).mono ?_
  rintro e w3 ⟨rfl, hb⟩
  have B3 := hide (B2.out.trans (hb.mono B2.out.size))
  clear hb B2 XT2 t0 t1 t2 t3 t4 t5
  go_wp2_with fail
  refine (HRT.out _).mono ?_
  rintro e w4 ⟨rfl, hb⟩
  have B4 := hide (B3.out.trans (hb.mono B3.out.size))
  clear hb B3
  go_wp2_with fail
  refine (wakes26 _).mono ?_
  rintro e w5 ⟨rfl, hb⟩
  have B5 := hide (B4.out.trans (hb.mono B4.out.size))
  clear hb B4
  go_wp2_with fail
  go_ret
  exact ⟨rfl, B5.out⟩
theorem shiftTill_walk (c : Int) (c0 : -9223372036854775808 ≤ c) (c1 : c ≤ 9223372036854775807) (v : Value) (hv : ∃ xs : List Int, xs.length = 5 ∧ v = .agg (xs.map (Value.int .i64)).toArray ∧ ∀ x ∈ xs, (Lit.int .i64 x).wf = true) (w : World) :
    Calls Try.prog 3 #[.int .i64 c, v] w fun e w' => e = .returned (.bool true) ∧ Below w.heap.size w w' := by
  obtain ⟨xs, hl, rfl, hwf⟩ := hv
  match xs, hl, hwf with
  | [s, v, r, i, o], _, hwf => exact shiftTill_five c s v r i o (wf_i64 (hwf s (by simp))) (wf_i64 (hwf v (by simp))) (wf_i64 (hwf r (by simp))) (wf_i64 (hwf i (by simp))) (wf_i64 (hwf o (by simp))) w

set_option maxRecDepth 100000 in
theorem shiftTill_lifted (os : Os) (started : os.Started) (H : Type) (enc : TypeId × Value → H) :
    ReturnsInHanded {} Try.checked os 3 .any (Rows.shiftTillSpec.pre6 enc Try.prog Try.f3 Rows.shiftTillRow.domain false) (Rows.shiftTillSpec.post enc Try.prog Try.f3 false true false false) := by
  refine returnsInHanded_of_change (C := Try.checked) own started (by kernel_rfl) Try.func3
    (ChangeSpec.witness6 (enc := enc) (C := Try.checked) false ⟨#[], #[.int .i64 0, .agg #[.int .i64 0, .int .i64 0, .int .i64 0, .int .i64 0, .int .i64 0]], []⟩ 8 (by kernel_rfl) (by kernel_rfl) (by kernel_rfl) (by kernel_rfl)) ?_
  intro W base args ds gs before hval0 hW _ _
  have hval : ∀ (j : Nat) t v, Try.f3.params[j]? = some t → args[j]? = some v → Value.okWide Try.prog W .any base t v := hval0
  have hW' := hW
  obtain ⟨p, q, hA0, hV, rfl, hfz, hnd⟩ := hW
  have hA : DataW.TrodAll enc Try.prog W 0 (fun _ => true) true Try.f3.params.toList args.toList ds p := hA0
  rw [Try.params3] at hA hval
  obtain ⟨v0, vs0, d0, ds0, p0, q0, hargs, rfl, rfl, h0, r0⟩ := trodAll_cons hA
  obtain ⟨v1, vs1, d1, ds1, p1, q1, rfl, rfl, rfl, h1, r1⟩ := trodAll_cons r0
  obtain ⟨rfl, rfl, rfl⟩ := trodAll_nil r1
  obtain rfl : args = #[v0, v1] := by cases args; simp_all
  obtain ⟨rfl, rfl⟩ := trodVars_none hV
  obtain ⟨count, rfl, rfl, rfl, w0⟩ := open_int Try.underlying3 (hval 0 3 v0 rfl rfl) h0
  have z0 := wf_i64 w0
  have z1 := open_nums_array 5 Try.underlying22 Try.underlying2 (by kernel_rfl) (by kernel_rfl) (hval 1 22 v1 rfl rfl) h1
  clear hA0 hval0
  refine (shiftTill_walk count z0.1 z0.2 v1 z1 W).mono fun e W' ⟨he, hb⟩ => ?_
  subst he
  exact ⟨_, rfl, post_law laidOut (of_decide_eq_true (by kernel_rfl)) rfl rfl Try.underlying4 hW' ⟨rfl, rfl, rfl⟩ hb⟩

/-- THE STATEMENT -/
theorem shiftTill_holds : Rows.ShiftTillSaid :=
  OpenClaim.holds_of_wide 3 Try.f3 rfl rfl rfl rfl rfl rfl rfl ⟨rfl, rfl, rfl, rfl, rfl⟩ rfl rfl rfl rfl rfl (by kernel_rfl) Try.func3 (by kernel_rfl)
    (of_decide_eq_true (by kernel_rfl)) (by unfold Func.isWrapper; first | (rw [if_pos (by decide +kernel)]; kernel_rfl) | (rw [if_neg (by decide +kernel)]; exact ⟨rfl, rfl⟩))
    (fun os started H enc _ => shiftTill_lifted os started H enc)


end Go.Proofs.Ytgneemdjfeogaaa
