/-
  Layer 5's laws, walked and closed: NandShapes.
-/
import Derived.Test.YthippbckjldijaaNand16
namespace Go.Proofs.Ythippbckjldijaa
set_option linter.unusedSimpArgs false
set_option linter.unusedVariables false
open Go.RowKit Go.WideShapes Go.ChangeShapes Go.ChangeAt Go.Deep

theorem rightS_nat {b p s : Int} (h : rightS b p s = true) : ∃ b' p' s' : Nat, (b' : Int) = b ∧ (p' : Int) = p ∧ (s' : Int) = s := by
  unfold rightS at h
  have := of_decide_eq_true h
  exact ⟨b.toNat, p.toNat, s.toNat, by omega, by omega, by omega⟩
set_option maxRecDepth 100000 in
set_option maxHeartbeats 1000000 in
theorem nandShapes_walk (v0 : Value) (z0 : ∃ xs : List Int, xs.length = 3 ∧ v0 = .agg (xs.map (Value.int .i64)).toArray ∧ ∀ x ∈ xs, (Lit.int .i64 x).wf = true) (block : Int) (b0 : -9223372036854775808 ≤ block) (b1 : block ≤ 9223372036854775807) (page : Int) (g0 : -9223372036854775808 ≤ page) (g1 : page ≤ 9223372036854775807) (w : World) :
    Calls Try.prog 4 #[v0, .int .i64 block, .int .i64 page] w fun e w' => e = .returned (.bool true) ∧ Below w.heap.size w w' := by
  obtain ⟨xs, hxl, rfl, -⟩ := z0
  obtain ⟨x, y, z, rfl⟩ : ∃ x y z, xs = [x, y, z] := by
    match xs, hxl with
    | [x, y, z], _ => exact ⟨x, y, z, rfl⟩
  show Calls Try.prog 4 #[.agg #[.int .i64 x, .int .i64 y, .int .i64 z], .int .i64 block, .int .i64 page] w fun e w' => e = .returned (.bool true) ∧ Below w.heap.size w w'
  clear hxl
  have HRR := hide (fun W => rright_any x y z W)
  have HR := hide (fun W => right_any x y z W)
  have HNB := hide (fun (h : rightS x y z = false) W => new_bad x y z h (.slice none 0 0) W)
  generalize rightS x y z = r at *
  go_enter Try.func4, Try.ntmps4
  go_wp2_with fail
  refine (HRR.out _).mono ?_
  rintro e w1 ⟨rfl, rfl⟩
  go_wp2_with fail
  obtain ⟨oa, hoa⟩ : ∃ oa, oa = Obj.cells #[.int .i64 x, .int .i64 y, .int .i64 z] 22 := ⟨_, rfl⟩
  obtain ⟨ob, hob⟩ : ∃ ob, ob = Obj.cells #[.int .i64 x, .int .i64 y, .int .i64 z] 26 := ⟨_, rfl⟩
  rw [← hoa, ← hob]
  have hal := ((Below.refl w.heap.size w).alloc (Nat.le_refl _) oa).alloc (by simp) ob
  have hsb := heap_new (w.alloc oa) ob
  rw [show (w.alloc oa).heap.size = w.heap.size + 1 by simp, hob] at hsb
  rw [← hob] at hsb
  have hszz : ((w.alloc oa).alloc ob).heap.size = w.heap.size + 2 := by simp
  generalize (w.alloc oa).alloc ob = w0 at *
  refine (HR.out _).mono ?_
  rintro e w1 ⟨rfl, hb⟩
  have XS := hide ((hb.block (w.heap.size + 1) (by omega)).trans hsb)
  have BL := hide (hal.trans (hb.mono (by omega)))
  rw [hob] at XS
  clear hb hal hsb hszz hoa hob HR HRR
  cases r with
  | true =>
    go_wp2_with fail
    refine (read_nil block page _).mono ?_
    rintro e u ⟨rfl, rfl⟩
    go_wp2_with fail
    refine (wreck_nil block _).mono ?_
    rintro e u ⟨rfl, rfl⟩
    go_wp2_with fail
    refine (fuse_nil 1 ⟨#[97]⟩ _).mono ?_
    rintro e u ⟨rfl, rfl⟩
    go_wp2_with fail
    refine (on_nil _).mono ?_
    rintro e u ⟨rfl, rfl⟩
    go_wp2_with fail
    refine (count_nil _).mono ?_
    rintro e u ⟨rfl, rfl⟩
    go_wp2_with fail
    refine (wakes_any _).mono ?_
    rintro e u ⟨rfl, hb⟩
    have BL := hide (BL.out.trans (hb.mono BL.out.size))
    clear hb
    go_wp2_with fail
    refine (program_nil block page ⟨#[]⟩ ⟨#[]⟩ _).mono ?_
    rintro e u ⟨rfl, rfl⟩
    go_wp2_with fail
    refine (erase_nil block _).mono ?_
    rintro e u ⟨rfl, rfl⟩
    go_wp2_with fail
    refine (next_nil block _).mono ?_
    rintro e u ⟨rfl, rfl⟩
    go_wp2_with fail
    refine (erases_nil block _).mono ?_
    rintro e u ⟨rfl, rfl⟩
    go_wp2_with fail
    refine (off_nil _).mono ?_
    rintro e u ⟨rfl, rfl⟩
    go_wp2_with fail
    refine (sins_nil _).mono ?_
    rintro e u ⟨rfl, rfl⟩
    go_wp2_with fail
    refine (shape_nil _).mono ?_
    rintro e u ⟨rfl, hb⟩
    have BL := hide (BL.out.trans (hb.mono BL.out.size))
    clear hb
    go_wp2_with fail
    go_ret
    exact ⟨rfl, BL.out⟩
  | false =>
    have c0 := cell_of_block XS.out 0
    have c1 := cell_of_block XS.out 1
    have c2 := cell_of_block XS.out 2
    go_wp2_with fail
    refine (HNB.out (by trivial) _).mono ?_
    rintro e w1' ⟨rfl, hb⟩
    have BL := hide (BL.out.trans (hb.mono BL.out.size))
    clear hb XS c0 c1 c2
    go_wp2_with fail
    refine (read_nil block page _).mono ?_
    rintro e u ⟨rfl, rfl⟩
    go_wp2_with fail
    refine (wreck_nil block _).mono ?_
    rintro e u ⟨rfl, rfl⟩
    go_wp2_with fail
    refine (fuse_nil 1 ⟨#[97]⟩ _).mono ?_
    rintro e u ⟨rfl, rfl⟩
    go_wp2_with fail
    refine (on_nil _).mono ?_
    rintro e u ⟨rfl, rfl⟩
    go_wp2_with fail
    refine (count_nil _).mono ?_
    rintro e u ⟨rfl, rfl⟩
    go_wp2_with fail
    refine (wakes_any _).mono ?_
    rintro e u ⟨rfl, hb⟩
    have BL := hide (BL.out.trans (hb.mono BL.out.size))
    clear hb
    go_wp2_with fail
    refine (program_nil block page ⟨#[]⟩ ⟨#[]⟩ _).mono ?_
    rintro e u ⟨rfl, rfl⟩
    go_wp2_with fail
    refine (erase_nil block _).mono ?_
    rintro e u ⟨rfl, rfl⟩
    go_wp2_with fail
    refine (next_nil block _).mono ?_
    rintro e u ⟨rfl, rfl⟩
    go_wp2_with fail
    refine (erases_nil block _).mono ?_
    rintro e u ⟨rfl, rfl⟩
    go_wp2_with fail
    refine (off_nil _).mono ?_
    rintro e u ⟨rfl, rfl⟩
    go_wp2_with fail
    refine (sins_nil _).mono ?_
    rintro e u ⟨rfl, rfl⟩
    go_wp2_with fail
    refine (shape_nil _).mono ?_
    rintro e u ⟨rfl, hb⟩
    have BL := hide (BL.out.trans (hb.mono BL.out.size))
    clear hb
    go_wp2_with fail
    go_ret
    exact ⟨rfl, BL.out⟩

set_option maxRecDepth 100000 in
theorem nandShapes_lifted (os : Os) (started : os.Started) (H : Type) (enc : TypeId × Value → H) :
    ReturnsInHanded {} Try.checked os 4 .any (Rows.nandShapesSpec.pre6 enc Try.prog Try.f4 Rows.nandShapesRow.domain false) (Rows.nandShapesSpec.post enc Try.prog Try.f4 false true false false) := by
  refine returnsInHanded_of_change (C := Try.checked) own started (by kernel_rfl) Try.func4
    (ChangeSpec.witness6 (enc := enc) (C := Try.checked) false ⟨#[], #[.agg #[.int .i64 0, .int .i64 0, .int .i64 0], .int .i64 0, .int .i64 0], []⟩ 8 (by kernel_rfl) (by kernel_rfl) (by kernel_rfl) (by kernel_rfl)) ?_
  intro W base args ds gs before hval0 hW _ _
  have hval : ∀ (j : Nat) t v, Try.f4.params[j]? = some t → args[j]? = some v → Value.okWide Try.prog W .any base t v := hval0
  have hW' := hW
  obtain ⟨p, q, hA0, hV, rfl, hfz, hnd⟩ := hW
  have hA : DataW.TrodAll enc Try.prog W 0 (fun _ => true) true Try.f4.params.toList args.toList ds p := hA0
  rw [Try.params4] at hA hval
  obtain ⟨v0, vs0, d0, ds0, p0, q0, hargs, rfl, rfl, h0, r0⟩ := trodAll_cons hA
  obtain ⟨v1, vs1, d1, ds1, p1, q1, rfl, rfl, rfl, h1, r1⟩ := trodAll_cons r0
  obtain ⟨v2, vs2, d2, ds2, p2, q2, rfl, rfl, rfl, h2, r2⟩ := trodAll_cons r1
  obtain ⟨rfl, rfl, rfl⟩ := trodAll_nil r2
  obtain rfl : args = #[v0, v1, v2] := by cases args; simp_all
  obtain ⟨rfl, rfl⟩ := trodVars_none hV
  have z0 := open_nums_array 3 Try.underlying22 Try.underlying3 (by kernel_rfl) (by kernel_rfl) (hval 0 22 v0 rfl rfl) h0
  obtain ⟨block, rfl, rfl, rfl, w1⟩ := open_int Try.underlying3 (hval 1 3 v1 rfl rfl) h1
  have z1 := wf_i64 w1
  obtain ⟨page, rfl, rfl, rfl, w2⟩ := open_int Try.underlying3 (hval 2 3 v2 rfl rfl) h2
  have z2 := wf_i64 w2
  clear hA0 hval0
  refine (nandShapes_walk v0 z0 block z1.1 z1.2 page z2.1 z2.2 W).mono fun e W' ⟨he, hb⟩ => ?_
  subst he
  exact ⟨_, rfl, post_law laidOut (of_decide_eq_true (by kernel_rfl)) rfl rfl Try.underlying4 hW' ⟨rfl, rfl, rfl⟩ hb⟩

/-- THE STATEMENT -/
theorem nandShapes_holds : Rows.NandShapesSaid :=
  OpenClaim.holds_of_wide 4 Try.f4 rfl rfl rfl rfl rfl rfl rfl ⟨rfl, rfl, rfl, rfl, rfl⟩ rfl rfl rfl rfl rfl (by kernel_rfl) Try.func4 (by kernel_rfl)
    (of_decide_eq_true (by kernel_rfl)) (by unfold Func.isWrapper; first | (rw [if_pos (by decide +kernel)]; kernel_rfl) | (rw [if_neg (by decide +kernel)]; exact ⟨rfl, rfl⟩))
    (fun os started H enc _ => nandShapes_lifted os started H enc)

end Go.Proofs.Ythippbckjldijaa
