/-
  Layer 11: wakes; PoolMakes returns true at every input.
-/
import Derived.Test.YtbkbigpijdljpaaPool3
namespace Go.Proofs.Ytbkbigpijdljpaa
set_option linter.unusedSimpArgs false
set_option linter.unusedVariables false
open Go.RowKit Go.WideShapes Go.ChangeShapes Go.ChangeAt

set_option maxRecDepth 100000 in
set_option maxHeartbeats 1000000 in
theorem wakes11 (w : World) : Calls Try.prog 9 #[] w fun e w' => e = .returned (.bool true) ∧ Below w.heap.size w w' := by
  go_enter Try.func9, Try.ntmps9
  go_wp2_with fail
  refine (new_yes 3 (by omega) (by omega) w).mono ?_
  rintro e w1 ⟨rfl, hp, hb⟩
  have HP := hide hp
  have HB := hide hb
  clear hp hb
  go_wp2_with fail
  refine (worn_any (w.heap.size + 1) w.heap.size _ 0 2 _ HP.out).mono ?_
  rintro e w2 ⟨rfl, hp, ho⟩
  rw [show wornL (List.replicate 3 (1, 0)) 0 2 = [(1, 2), (1, 0), (1, 0)] by decide] at hp
  have HP2 := hide hp
  have HB2 := hide (ho.below HB.out (Nat.le_refl _) HB.out.size)
  clear hp ho HP HB
  have HP := HP2
  have HB := HB2
  clear HP2 HB2
  go_wp2_with fail
  refine (worn_any (w.heap.size + 1) w.heap.size _ 1 1 _ HP.out).mono ?_
  rintro e w3 ⟨rfl, hp, ho⟩
  rw [show wornL [(1, 2), (1, 0), (1, 0)] 1 1 = [(1, 2), (1, 1), (1, 0)] by decide] at hp
  have HP3 := hide hp
  have HB3 := hide (ho.below HB.out (Nat.le_refl _) HB.out.size)
  clear hp ho HP HB
  have HP := HP3
  have HB := HB3
  clear HP3 HB3
  go_wp2_with fail
  refine (worn_any (w.heap.size + 1) w.heap.size _ 2 1 _ HP.out).mono ?_
  rintro e w4 ⟨rfl, hp, ho⟩
  rw [show wornL [(1, 2), (1, 1), (1, 0)] 2 1 = [(1, 2), (1, 1), (1, 1)] by decide] at hp
  have HP4 := hide hp
  have HB4 := hide (ho.below HB.out (Nat.le_refl _) HB.out.size)
  clear hp ho HP HB
  have HP := HP4
  have HB := HB4
  clear HP4 HB4
  have hz : takeZ false [(1, 2), (1, 1), (1, 1)] = (1, 0) := by decide
  have htk := take_any (w.heap.size + 1) w.heap.size [(1, 2), (1, 1), (1, 1)] (by decide) _ HP.out
  rw [hz] at htk
  have HTK := hide htk
  clear hz htk
  go_wp2_with fail
  refine HTK.out.mono ?_
  rintro e w5 ⟨rfl, hp, ho⟩
  rw [show takeL false [(1, 2), (1, 1), (1, 1)] = [(1, 2), (2, 1), (1, 1)] by decide] at hp
  have HP5 := hide hp
  have HB5 := hide (ho.below HB.out (Nat.le_refl _) HB.out.size)
  clear hp ho HP HB HTK
  have h1 := state_any (w.heap.size + 1) w.heap.size _ 1 _ HP5.out
  rw [show fstZ [(1, 2), (2, 1), (1, 1)] 1 = 2 by decide] at h1
  have h2 := count_any (w.heap.size + 1) w.heap.size _ (by decide) 1 _ HP5.out
  rw [show cntK [(1, 2), (2, 1), (1, 1)] 1 [((1 : Int), (2 : Int)), (2, 1), (1, 1)].length = 2 by decide] at h2
  have H1 := hide h1
  have H2 := hide h2
  clear h1 h2
  go_wp2_with fail
  refine H1.out.mono ?_
  rintro e w6 ⟨rfl, rfl⟩
  go_wp2_with fail
  refine H2.out.mono ?_
  rintro e w7 ⟨rfl, hb⟩
  have h3 := wear_any (w.heap.size + 1) w.heap.size _ 0 _ (HP5.out.below hb)
  rw [show sndZ [(1, 2), (2, 1), (1, 1)] 0 = 2 by decide] at h3
  have H3 := hide h3
  have HB7 := hide (below_trans HB5.out hb)
  clear h3 hb
  go_wp2_with fail
  refine H3.out.mono ?_
  rintro e w8 ⟨rfl, rfl⟩
  go_wp2
  go_ret
  exact ⟨rfl, HB7.out⟩

/-- a pool that was asked for: which pointer, which error -/
def NewIs (k : Int) (B : Nat) (w : World) (e : Ending) (w' : World) : Prop :=
  (1 ≤ k ∧ k ≤ 256 ∧ ∃ p q n : Nat, (n : Int) = k ∧ e = .returned (.tuple #[.pointer (some ⟨p, 0, none⟩), .int .i64 0]) ∧ PoolAt w' p q (List.replicate n (1, 0)) ∧ B ≤ q ∧ B ≤ p ∧ Below B w w') ∨
  ((k < 1 ∨ 256 < k) ∧ e = .returned (.tuple #[.pointer none, .int .i64 2]) ∧ w = w')
theorem new_any (k : Int) (w : World) : Calls Try.prog 7 #[.int .i64 k] w (NewIs k w.heap.size w) := by
  by_cases h : 1 ≤ k ∧ k ≤ 256
  · obtain ⟨n, rfl⟩ := Int.eq_ofNat_of_zero_le (show 0 ≤ k by omega)
    exact (new_yes n (by omega) (by omega) w).mono fun e w' ⟨he, hp, hb⟩ => .inl ⟨h.1, h.2, _, _, n, rfl, he, hp, Nat.le_refl _, by omega, hb⟩
  · exact (new_no k (by omega) w).mono fun e w' ⟨he, hw⟩ => .inr ⟨by omega, he, hw⟩
theorem cntK_rep (n : Nat) (x : Int) : ∀ k, k ≤ n → cntK (List.replicate n (1, x)) 1 k = k
  | 0, _ => rfl
  | k + 1, h => by
    unfold cntK
    rw [cntK_rep n x k (by omega)]
    have : ((List.replicate n ((1 : Int), x)).getD k (0, 0)) = (1, x) := by simp [List.getD, show k < n by omega]
    rw [this]
    rfl

set_option maxRecDepth 100000 in
set_option maxHeartbeats 2000000 in
theorem poolMakes_walk (n : Int) (_ : -9223372036854775808 ≤ n) (_ : n ≤ 9223372036854775807) (b : Int) (_ : -9223372036854775808 ≤ b) (_ : b ≤ 9223372036854775807) (w : World) :
    Calls Try.prog 4 #[.int .i64 n, .int .i64 b] w fun e w' => e = .returned (.bool true) ∧ Below w.heap.size w w' := by
  go_enter Try.func4, Try.ntmps4
  go_wp2_with fail
  all_goals
    go_loopw [23] (fun i W => ∃ k : Nat, k ≤ 2 ∧ i = .int .i64 k ∧ (∃ x0 x1 : Int, W.cell? ⟨w.heap.size, 0, none⟩ = some (.int .i64 x0) ∧ W.cell? ⟨w.heap.size, 1, none⟩ = some (.int .i64 x1)) ∧ w.heap.size < W.heap.size ∧ Below w.heap.size w W) (fun i _ => 2 - (intOf i).toNat)
    case atStart => exact ⟨0, by omega, rfl, ⟨_, _, by simp [World.cell?_alloc_new]; rfl, by simp [World.cell?_alloc_new]; rfl⟩, by simp, (Below.refl _ _).alloc (Nat.le_refl _) _⟩
    case round =>
      obtain ⟨k, hk, rfl, ⟨x0, x1, c0, c1⟩, hz, hB⟩ := hrel
      have HB := hide hB
      have HC0 := hide c0
      have HC1 := hide c1
      have HZ := hide hz
      by_cases hlt : k < 2
      · obtain ⟨y, hy⟩ : ∃ y : Int, wr.cell? ⟨w.heap.size, k, none⟩ = some (.int .i64 y) := by
          obtain rfl | rfl : k = 0 ∨ k = 1 := by omega
          · exact ⟨_, c0⟩
          · exact ⟨_, c1⟩
        clear c0 c1 hB hz
        go_wp2_with fail
        clear hy
        refine (new_any y _).mono ?_
        rintro e w2 (⟨y0, y1, p, q, m, hm, rfl, hp, hBq, hBp, hb⟩ | ⟨hy, rfl, rfl⟩)
        · have hcn := count_any p q _ (by simp; omega) 1 _ hp
          rw [List.length_replicate, cntK_rep m 0 m (Nat.le_refl _), hm] at hcn
          have HCN := hide hcn
          have HB2 := hide (below_trans HB.out hb)
          have HC02 := hide (cell_keep HC0.out HZ.out hb)
          have HC12 := hide (cell_keep HC1.out HZ.out hb)
          have HZ2 := hide (Nat.lt_of_lt_of_le HZ.out hb.size)
          clear hcn hp hBq hBp hb hm
          go_wp2_with fail
          refine HCN.out.mono ?_
          rintro e w3 ⟨rfl, hb3⟩
          have HB3 := hide (below_trans HB2.out hb3)
          have HC03 := hide (cell_keep HC02.out HZ2.out hb3)
          have HC13 := hide (cell_keep HC12.out HZ2.out hb3)
          have HZ3 := hide (Nat.lt_of_lt_of_le HZ2.out hb3.size)
          clear hb3
          go_wp2_with fail
          go_roundw
          case rel => exact ⟨k + 1, by omega, by go_num, ⟨x0, x1, HC03.out, HC13.out⟩, HZ3.out, HB3.out⟩
          case measure => simp [intOf]; omega
        · by_cases hy1 : y < 1
          · go_wp2_with fail
            go_roundw
            case rel => exact ⟨k + 1, by omega, by go_num, ⟨x0, x1, HC0.out, HC1.out⟩, HZ.out, HB.out⟩
            case measure => simp [intOf]; omega
          · have hy2 : 256 < y := by omega
            have hy3 : 1 ≤ y := by omega
            clear hy
            go_wp2_with fail
            go_roundw
            case rel => exact ⟨k + 1, by omega, by go_num, ⟨x0, x1, HC0.out, HC1.out⟩, HZ.out, HB.out⟩
            case measure => simp [intOf]; omega
      · clear c0 c1 hB hz HC0 HC1
        go_wp2_with fail
        refine (take_nil _).mono ?_
        rintro e w2 ⟨rfl, rfl⟩
        go_wp2_with fail
        refine (most_nil _).mono ?_
        rintro e w3 ⟨rfl, rfl⟩
        go_wp2_with fail
        refine (spread_nil _).mono ?_
        rintro e w4 ⟨rfl, rfl⟩
        go_wp2_with fail
        refine (wakes11 _).mono ?_
        rintro e w5 ⟨rfl, hb5⟩
        go_wp2_with fail
        refine (set_nil _ _ _).mono ?_
        rintro e w6 ⟨rfl, rfl⟩
        go_wp2_with fail
        refine (worn_nil _ _ _).mono ?_
        rintro e w7 ⟨rfl, rfl⟩
        go_wp2_with fail
        refine (state_nil _ _).mono ?_
        rintro e w8 ⟨rfl, rfl⟩
        go_wp2_with fail
        refine (wear_nil _ _).mono ?_
        rintro e w9 ⟨rfl, rfl⟩
        go_wp2_with fail
        refine (count_nil _ _).mono ?_
        rintro e w10 ⟨rfl, rfl⟩
        go_wp2
        go_ret
        exact ⟨rfl, below_trans HB.out hb5⟩

set_option maxRecDepth 100000 in
theorem poolMakes_lifted (os : Os) (started : os.Started) (H : Type) (enc : TypeId × Value → H) :
    ReturnsInHanded {} Try.checked os 4 .any (Rows.poolMakesSpec.pre6 enc Try.prog Try.f4 Rows.poolMakesRow.domain false) (Rows.poolMakesSpec.post enc Try.prog Try.f4 false true false false) := by
  refine returnsInHanded_of_change (C := Try.checked) own started (by kernel_rfl) Try.func4
    (ChangeSpec.witness6 (enc := enc) (C := Try.checked) false ⟨#[], #[.int .i64 0, .int .i64 0], []⟩ 8 (by kernel_rfl) (by kernel_rfl) (by kernel_rfl) (by kernel_rfl)) ?_
  intro W base args ds gs before hval0 hW _ _
  have hval : ∀ (j : Nat) t v, Try.f4.params[j]? = some t → args[j]? = some v → Value.okWide Try.prog W .any base t v := hval0
  have hW' := hW
  obtain ⟨p, q, hA0, hV, rfl, hfz, hnd⟩ := hW
  have hA : DataW.TrodAll enc Try.prog W 0 (fun _ => true) true Try.f4.params.toList args.toList ds p := hA0
  rw [Try.params4] at hA hval
  obtain ⟨v0, vs0, d0, ds0, p0, q0, hargs, rfl, rfl, h0, r0⟩ := trodAll_cons hA
  obtain ⟨v1, vs1, d1, ds1, p1, q1, rfl, rfl, rfl, h1, r1⟩ := trodAll_cons r0
  obtain ⟨rfl, rfl, rfl⟩ := trodAll_nil r1
  obtain rfl : args = #[v0, v1] := by cases args; simp_all
  obtain ⟨rfl, rfl⟩ := trodVars_none hV
  obtain ⟨n, rfl, rfl, rfl, w0⟩ := open_int Try.underlying3 (hval 0 3 v0 rfl rfl) h0
  have z0 := wf_i64 w0
  obtain ⟨b, rfl, rfl, rfl, w1⟩ := open_int Try.underlying3 (hval 1 3 v1 rfl rfl) h1
  have z1 := wf_i64 w1
  clear hA0 hval0
  refine (poolMakes_walk n z0.1 z0.2 b z1.1 z1.2 W).mono fun e W' ⟨he, hb⟩ => ?_
  subst he
  exact ⟨_, rfl, post_law laidOut (of_decide_eq_true (by kernel_rfl)) rfl rfl Try.underlying4 hW' ⟨rfl, rfl, rfl⟩ hb⟩

/-- THE STATEMENT -/
theorem poolMakes_holds : Rows.PoolMakesSaid :=
  OpenClaim.holds_of_wide 4 Try.f4 rfl rfl rfl rfl rfl rfl rfl ⟨rfl, rfl, rfl, rfl, rfl⟩ rfl rfl rfl rfl rfl (by kernel_rfl) Try.func4 (by kernel_rfl)
    (of_decide_eq_true (by kernel_rfl)) (by unfold Func.isWrapper; first | (rw [if_pos (by decide +kernel)]; kernel_rfl) | (rw [if_neg (by decide +kernel)]; exact ⟨rfl, rfl⟩))
    (fun os started H enc _ => poolMakes_lifted os started H enc)

end Go.Proofs.Ytbkbigpijdljpaa
