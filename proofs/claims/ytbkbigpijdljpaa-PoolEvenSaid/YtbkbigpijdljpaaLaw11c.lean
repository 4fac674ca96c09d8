/-
  Layer 11: PoolEven returns true at every input: the walk.
-/
import Derived.Test.YtbkbigpijdljpaaLaw11b
namespace Go.Proofs.Ytbkbigpijdljpaa
set_option linter.unusedSimpArgs false
set_option linter.unusedVariables false
open Go.RowKit Go.WideShapes Go.ChangeShapes Go.ChangeAt

theorem turn_sign {n hold t : Nat} {held : Int} {L : List (Int × Int)} (h : Turn n hold t held L) : held = -1 ∨ 0 ≤ held := by
  rcases h.2.2 with ⟨hx, _⟩ | ⟨k, _, hx, _⟩ <;> omega
theorem turn_held {n hold t : Nat} {held : Int} {L : List (Int × Int)} (h : Turn n hold t held L) (hn : n ≤ 100) : -1 ≤ held ∧ held ≤ 100 := by
  rcases h.2.2 with ⟨hx, _⟩ | ⟨k, _, hx, _⟩ <;> omega
set_option maxRecDepth 100000 in
set_option maxHeartbeats 4000000 in
theorem poolEven_walk (bl : Int) (b0 : 0 ≤ bl) (b1 : bl ≤ 255) (tu : Int) (t0 : 0 ≤ tu) (t1 : tu ≤ 255) (ho : Int) (h0 : 0 ≤ ho) (h1 : ho ≤ 255) (w : World) :
    Calls Try.prog 5 #[.int .u8 bl, .int .u8 tu, .int .u8 ho] w fun e w' => e = .returned (.bool true) ∧ Below w.heap.size w w' := by
  obtain ⟨T, rfl⟩ := Int.eq_ofNat_of_zero_le t0
  obtain ⟨hold, rfl⟩ := Int.eq_ofNat_of_zero_le h0
  have m0 : 0 ≤ bl % 10 := by omega
  have m1 : bl % 10 ≤ 9 := by omega
  go_enter Try.func5, Try.ntmps5
  go_wp2_with fail
  refine (new_any _ _).mono ?_
  rintro e w1 (⟨y0, y1, p, q, n, hn, rfl, hp, hBq, hBp, hb⟩ | ⟨hy, rfl, rfl⟩)
  rotate_left
  · exfalso; omega
  have n2 : 2 ≤ n := by omega
  have n11 : n ≤ 11 := by omega
  have HN := hide hn
  have HP := hide hp
  have HB := hide hb
  have HBQ := hide hBq
  clear hn hp hb hBq hBp y0 y1
  go_wp2_with fail
  refine (wakes11 _).mono ?_
  rintro e w2 ⟨rfl, hb2⟩
  have HP2 := hide (HP.out.below hb2)
  have HB2 := hide (below_trans HB.out hb2)
  clear hb2 HP HB
  go_wp2_with fail
  go_loopw [10, 38] (fun s10 i W => ∃ (t : Nat) (held : Int) (L : List (Int × Int)), t ≤ T ∧ i = .int .i64 t ∧ s10 = .int .i64 held ∧ Turn n hold t held L ∧ PoolAt W p q L ∧ Below w.heap.size w W) (fun _ i _ => T - (intOf i).toNat)
  case atStart => exact ⟨0, -1, _, by omega, rfl, rfl, turn_start n hold n2, HP2.out, HB2.out⟩
  case round =>
    clear HP2 HB2
    obtain ⟨t, held, L, ht, rfl, rfl, hT, hp, hb⟩ := hrel
    have HT := hide hT
    have HP := hide hp
    have HB := hide hb
    have hlen : L.length ≤ 1000000 := by rw [hT.1]; omega
    have hsg := turn_sign hT
    have hhb := turn_held hT (by omega)
    by_cases hlt : t < T
    · obtain ⟨j, v, hj, v0, vt, hz, hL, hf, hv, hm⟩ := turn_take n2 hT
      obtain ⟨s1, s2, s3, s4⟩ := turn_worn n2 hT hj v0 vt hf hv hm
      have htk := take_any p q L hlen _ hp
      rw [hz, hL] at htk
      have HTK := hide htk
      have HF := hide hf
      have HV := hide hv
      have HM := hide hm
      have S1 := hide s1
      have S2 := hide s2
      have S3 := hide s3
      have S4 := hide s4
      have hlen2 : ∀ x, (L.set j x).length ≤ 1000000 := fun x => by simpa using hlen
      have HLEN := hide hlen2
      clear hT hp hb hlen hz hL hf hv hm s1 s2 s3 s4 htk hlen2
      go_wp2_with fail
      refine HTK.out.mono ?_
      rintro e w3 ⟨rfl, hp, ho⟩
      have HP3 := hide hp
      have HB3 := hide (ho.below HB.out HBQ.out HB.out.size)
      have hwe := wear_any p q _ (j : Int) _ hp
      rw [S1.out] at hwe
      have HWE := hide hwe
      have hwo := worn_any p q _ (j : Int) (v + 1) _ hp
      rw [S2.out] at hwo
      have HWO := hide hwo
      clear hp ho hwe hwo HTK
      go_wp2_with fail
      refine HWE.out.mono ?_
      rintro e w4 ⟨rfl, rfl⟩
      go_wp2_with fail
      refine HWO.out.mono ?_
      rintro e w5 ⟨rfl, hp, ho⟩
      have HP5 := hide hp
      have HB5 := hide (ho.below HB3.out HBQ.out HB3.out.size)
      have hsp := spread_any p q _ (HLEN.out _) _ hp
      generalize spreadZ (L.set j (2, v + 1)) = sp at *
      obtain ⟨lo, hi⟩ := sp
      have HSP := hide hsp
      clear hp ho hsp HP3 HB3 HWE HWO
      go_wp2_with fail
      refine HSP.out.mono ?_
      rintro e w6 ⟨rfl, hb6⟩
      have HP6 := hide (HP5.out.below hb6)
      have HB6 := hide (below_trans HB5.out hb6)
      have hse := set_any p q _ (j : Int) 1 _ HP6.out
      rw [S4.out] at hse
      have HSE := hide hse
      clear hb6 hse HSP
      by_cases hneg : held < 0
      · obtain ⟨q1, q2, q3, q4, q5⟩ := S3.out (by omega)
        have q1 : hi - lo ≤ 1 := q1
        have q2 : 0 ≤ lo := q2
        have q3 : 0 ≤ hi := q3
        have q4 : lo ≤ 1000 + (t : Int) := q4
        have q5 : hi ≤ 1000 + (t : Int) := q5
        clear hsg
        by_cases hth : t = hold
        · have hth' : ((t : Int) == (hold : Int)) = true := by simp [hth]
          have HTN := hide (show Turn n hold (t + 1) j (L.set j (2, v + 1)) by subst hth; exact turn_hold HT.out hj v0 vt HF.out HV.out)
          clear hth HSE
          go_wp2_with fail
          go_roundw
          case rel => exact ⟨t + 1, j, _, by omega, by go_num, rfl, HTN.out, HP6.out, HB6.out⟩
          case measure => first | (simp [intOf]; omega) | omega | (unfold intOf; omega) | trace_state
        · have hth' : ((t : Int) == (hold : Int)) = false := by simp; omega
          have HTN := hide (turn_free HT.out hth hj v0 vt HF.out HV.out HM.out)
          clear hth
          go_wp2_with fail
          refine HSE.out.mono ?_
          rintro e w7 ⟨rfl, hp, ho⟩
          have HP7 := hide hp
          have HB7 := hide (ho.below HB6.out HBQ.out HB6.out.size)
          clear hp ho HSE
          go_wp2_with fail
          go_roundw
          case rel => exact ⟨t + 1, held, _, by omega, by go_num, rfl, HTN.out, HP7.out, HB7.out⟩
          case measure => first | (simp [intOf]; omega) | omega | (unfold intOf; omega) | trace_state
      · clear hsg
        by_cases hth : t = hold
        · have HTN := hide (show Turn n hold (t + 1) j (L.set j (2, v + 1)) by subst hth; exact turn_hold HT.out hj v0 vt HF.out HV.out)
          have hth' : ((t : Int) == (hold : Int)) = true := by simp [hth]
          clear hth HSE
          go_wp2_with fail
          go_roundw
          case rel => exact ⟨t + 1, j, _, by omega, by go_num, rfl, HTN.out, HP6.out, HB6.out⟩
          case measure => first | (simp [intOf]; omega) | omega | (unfold intOf; omega) | trace_state
        · have hth' : ((t : Int) == (hold : Int)) = false := by simp; omega
          have HTN := hide (turn_free HT.out hth hj v0 vt HF.out HV.out HM.out)
          clear hth
          go_wp2_with fail
          refine HSE.out.mono ?_
          rintro e w7 ⟨rfl, hp, ho⟩
          have HP7 := hide hp
          have HB7 := hide (ho.below HB6.out HBQ.out HB6.out.size)
          clear hp ho HSE
          go_wp2_with fail
          go_roundw
          case rel => exact ⟨t + 1, held, _, by omega, by go_num, rfl, HTN.out, HP7.out, HB7.out⟩
          case measure => first | (simp [intOf]; omega) | omega | (unfold intOf; omega) | trace_state
    · have hcn := count_any p q L hlen 1 _ hp
      rw [turn_end hT n2] at hcn
      have hnn := HN.out
      clear hT hp hb hlen
      by_cases hge : 0 ≤ held
      · rw [if_pos hge] at hcn
        have HCN := hide hcn
        clear hcn hnn
        go_wp2_with fail
        refine HCN.out.mono ?_
        rintro e w3 ⟨rfl, hb3⟩
        go_wp2
        go_ret
        exact ⟨ret_bool (by have := HN.out; simp; omega), below_trans HB.out hb3⟩
      · rw [if_neg hge] at hcn
        have HCN := hide hcn
        clear hcn hnn
        go_wp2_with fail
        refine HCN.out.mono ?_
        rintro e w3 ⟨rfl, hb3⟩
        go_wp2
        go_ret
        exact ⟨ret_bool (by have := HN.out; simp; omega), below_trans HB.out hb3⟩

set_option maxRecDepth 100000 in
theorem poolEven_lifted (os : Os) (started : os.Started) (H : Type) (enc : TypeId × Value → H) :
    ReturnsInHanded {} Try.checked os 5 .any (Rows.poolEvenSpec.pre6 enc Try.prog Try.f5 Rows.poolEvenRow.domain false) (Rows.poolEvenSpec.post enc Try.prog Try.f5 false true false false) := by
  refine returnsInHanded_of_change (C := Try.checked) own started (by kernel_rfl) Try.func5
    (ChangeSpec.witness6 (enc := enc) (C := Try.checked) false ⟨#[], #[.int .u8 0, .int .u8 0, .int .u8 0], []⟩ 8 (by kernel_rfl) (by kernel_rfl) (by kernel_rfl) (by kernel_rfl)) ?_
  intro W base args ds gs before hval0 hW _ _
  have hval : ∀ (j : Nat) t v, Try.f5.params[j]? = some t → args[j]? = some v → Value.okWide Try.prog W .any base t v := hval0
  have hW' := hW
  obtain ⟨p, q, hA0, hV, rfl, hfz, hnd⟩ := hW
  have hA : DataW.TrodAll enc Try.prog W 0 (fun _ => true) true Try.f5.params.toList args.toList ds p := hA0
  rw [Try.params5] at hA hval
  obtain ⟨v0, vs0, d0, ds0, p0, q0, hargs, rfl, rfl, h0, r0⟩ := trodAll_cons hA
  obtain ⟨v1, vs1, d1, ds1, p1, q1, rfl, rfl, rfl, h1, r1⟩ := trodAll_cons r0
  obtain ⟨v2, vs2, d2, ds2, p2, q2, rfl, rfl, rfl, h2, r2⟩ := trodAll_cons r1
  obtain ⟨rfl, rfl, rfl⟩ := trodAll_nil r2
  obtain rfl : args = #[v0, v1, v2] := by cases args; simp_all
  obtain ⟨rfl, rfl⟩ := trodVars_none hV
  obtain ⟨bl, rfl, rfl, rfl, w0⟩ := open_int Try.underlying5 (hval 0 5 v0 rfl rfl) h0
  have z0 := wf_u8 w0
  obtain ⟨tu, rfl, rfl, rfl, w1⟩ := open_int Try.underlying5 (hval 1 5 v1 rfl rfl) h1
  have z1 := wf_u8 w1
  obtain ⟨ho, rfl, rfl, rfl, w2⟩ := open_int Try.underlying5 (hval 2 5 v2 rfl rfl) h2
  have z2 := wf_u8 w2
  clear hA0 hval0
  refine (poolEven_walk bl z0.1 z0.2 tu z1.1 z1.2 ho z2.1 z2.2 W).mono fun e W' ⟨he, hb⟩ => ?_
  subst he
  exact ⟨_, rfl, post_law laidOut (of_decide_eq_true (by kernel_rfl)) rfl rfl Try.underlying4 hW' ⟨rfl, rfl, rfl⟩ hb⟩

/-- THE STATEMENT -/
theorem poolEven_holds : Rows.PoolEvenSaid :=
  OpenClaim.holds_of_wide 5 Try.f5 rfl rfl rfl rfl rfl rfl rfl ⟨rfl, rfl, rfl, rfl, rfl⟩ rfl rfl rfl rfl rfl (by kernel_rfl) Try.func5 (by kernel_rfl)
    (of_decide_eq_true (by kernel_rfl)) (by unfold Func.isWrapper; first | (rw [if_pos (by decide +kernel)]; kernel_rfl) | (rw [if_neg (by decide +kernel)]; exact ⟨rfl, rfl⟩))
    (fun os started H enc _ => poolEven_lifted os started H enc)

end Go.Proofs.Ytbkbigpijdljpaa
