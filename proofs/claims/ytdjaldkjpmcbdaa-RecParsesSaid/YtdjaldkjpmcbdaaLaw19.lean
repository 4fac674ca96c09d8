/-
  Layer 19: RecFrames.
-/
import Derived.Test.YtdjaldkjpmcbdaaRef19
import Derived.Test.YtdjaldkjpmcbdaaKitE
namespace Go.Proofs.Ytdjaldkjpmcbdaa
set_option linter.unusedSimpArgs false
set_option linter.unusedVariables false
open Go.RowKit Go.WideShapes Go.ChangeShapes Go.ChangeAt

theorem rc_of {x : List Value} (hl : x.length = 2) (h : ∀ (j : Nat) c u, [TypeDesc.int .u8, .string][j]? = some c → x[j]? = some u → CellIs c u) : ∃ r : Rc, x = rcC r ∧ True := by
  match x, hl with
  | [c0, c1], _ =>
    obtain ⟨k, rfl, hk⟩ := h 0 _ _ rfl rfl
    obtain ⟨s, rfl, hs⟩ := h 1 _ _ rfl rfl
    have hk2 := wf_u8 hk
    refine ⟨(UInt8.ofNat k.toNat, s.data.toList), ?_, trivial⟩
    have e : ((UInt8.ofNat k.toNat).toNat : Int) = k := by
      rw [UInt8.toNat_ofNat']
      omega
    show _ = [Value.int .u8 ((UInt8.ofNat k.toNat).toNat : Int), .string (bs s.data.toList)]
    rw [e, bs_of]
/-- records that came in -/
def RecsV (w : World) (v : Value) : Prop := ∃ (L : List Rc) (a : Option Addr) (cap : Nat), v = .slice a L.length cap ∧ L.length ≤ cap ∧ L.length ≤ 9223372036854775807 ∧ RecsIn w a L
theorem open_recs {H : Type} {enc : TypeId × Value → H} {w : World} {base : Nat} {sp : Nat → Bool} {held : Bool} {r : Reach} {b0 : Nat} {v : Value} {d : DataW H} {ps : List MemPlace}
    (hv : Value.okWide Try.prog w r b0 22 v) (h : DataW.Trod enc Try.prog w base sp held 22 v d ps) : RecsV w v := by
  obtain ⟨L, hL, hx⟩ := open_rows [.int .u8, .string] Try.underlying22 Try.underlying53 (by kernel_rfl) (by kernel_rfl) (by decide) rfl (fun j hj => by
    have : j = 0 ∨ j = 1 := by simp at hj; omega
    rcases this with rfl | rfl <;> rfl) hv h
  obtain ⟨L', rfl, hp⟩ := rows_typed rcC (fun _ => True) L (fun x hxL => rc_of (hx x hxL).1 (hx x hxL).2)
  obtain ⟨a, cap, rfl, hm, hc, hcm, hi⟩ := hL
  rw [List.length_map] at *
  unfold maxLen at *
  refine ⟨L', a, cap, rfl, hc, by omega, fun i hil => ?_⟩
  obtain ⟨b, off, h1, h2, h3⟩ := hi i hil
  rw [getD_map rcC L' rc0 i hil] at h3
  exact ⟨b, off, h1, h2, h3 0 (by decide), h3 1 (by decide)⟩
theorem owns_cap {w : World} {B e n m cap : Nat} {a : Option Addr} {xs : List Value} (h : w.ownsRow B e m (.slice a n cap) n xs) : n ≤ cap := by
  rcases h.2 with ⟨hv, hn⟩ | ⟨g, cap', cur, hv, _, _, hc, _⟩
  · omega
  · simp only [Value.slice.injEq] at hv
    omega
theorem recs_one {W : World} {g off i : Nat} {L : List Rc} (h : RecsIn W (some ⟨g, off, none⟩) L) (hi : i < L.length) : RecsIn W (some ⟨g, off + i * 2, none⟩) [L.getD i rc0] := by
  intro k hk
  obtain rfl : k = 0 := by simp at hk; omega
  obtain ⟨b, o, e, h1, h2, h3⟩ := h i hi
  simp only [Option.some.injEq, Addr.mk.injEq, and_true] at e
  obtain ⟨rfl, rfl⟩ := e
  exact ⟨g, off + i * 2, rfl, h1, by rw [Nat.zero_mul, Nat.add_zero]; exact h2, by rw [Nat.zero_mul, Nat.add_zero]; exact h3⟩
theorem cutL_six (L : List Rc) : (cutL L).length ≤ 6 := by rw [cutL_length]; omega
theorem fr_one (r : Rc) : frL [r] = (if rightR r = true then recL r else []) ∧ frE [r] = if rightR r = true then 0 else 2 := by
  unfold frL frE
  simp [frameL]
set_option maxRecDepth 100000 in
set_option maxHeartbeats 1000000 in
theorem recFrames_walk (v : Value) (w : World) (hv : RecsV w v) :
    Calls Try.prog 3 #[v] w fun e w' => e = .returned (.bool true) ∧ Below w.heap.size w w' := by
  obtain ⟨L, a, cap, rfl, hcap, hmax, hin⟩ := hv
  have HIN := hide hin
  have HRCS := hide (fun W h => records_any a cap L hcap hmax W h)
  have HM6 := hide (cutL_six L)
  have HMS := hide (cutL_short L)
  unfold RIs at HRCS
  generalize cutL L = M at *
  have z := (zero_of_info tab_zero).1
  have hsz := tabC_size 256
  have hst := tab_store
  have HMK := hide (fun W => make_any W)
  have hm6 := HM6.out
  have HFRA := hide (fun pb a c W ht h => frame_any pb 0 a c M (by omega) (fun r hr => Nat.le_trans (HMS.out r hr) (by omega)) W ht h)
  have HRFR := hide (fun a c W h => rframe_any a c M (by omega) (fun r hr => Nat.le_trans (HMS.out r hr) (by omega)) W h)
  have HFRN := hide (fun a c W => frame_nil a M.length c W)
  have hmi : (M.length : Int) ≤ 6 := by omega
  clear hin hcap hmax hm6
  generalize bs (frL M) = S at *
  generalize frE M = E at *
  go_enter Try.func3, Try.ntmps3
  go_wp2_with fail
  refine (HMK.out _).mono ?_
  rintro e w1 ⟨rfl, hb1⟩
  have HT2 := hide (tabAt_new w1)
  have HB2 := hide (hb1.alloc hb1.size (.cells (tabC 256) 25))
  clear hb1
  go_wp2_with fail
  generalize w1.alloc (.cells (tabC 256) 25) = w2 at *
  generalize w1.heap.size = pb at *
  refine (HRCS.out _ (HIN.out.below HB2.out)).mono ?_
  rintro e w3 ⟨a1, a2, c1, c2, rfl, h1, h2, hb3⟩
  have HA3 := hide (recs_of_owns h1)
  have HQ3 := hide (recs_of_owns h2)
  have hc2 := owns_cap h2
  have HT3 := hide (tabAt_kept HT2.out hb3)
  have HB3 := hide (HB2.out.trans (hb3.mono HB2.out.size))
  clear h1 h2 hb3 HT2 HB2 HRCS hst hsz z
  go_wp2_with fail
  refine (HFRA.out pb a1 c1 _ HT3.out HA3.out).mono ?_
  rintro e w4 ⟨rfl, hb4⟩
  have HA4 := hide (HA3.out.below hb4)
  have HQ4 := hide (HQ3.out.below hb4)
  have HB4 := hide (HB3.out.trans (hb4.mono HB3.out.size))
  clear hb4 HA3 HQ3 HB3 HT3
  go_wp2_with fail
  refine (HRFR.out a2 c2 _ HQ4.out).mono ?_
  rintro e w5 ⟨rfl, hb5⟩
  have HA5 := hide (HA4.out.below hb5)
  have HQ5 := hide (HQ4.out.below hb5)
  have HB5 := hide (HB4.out.trans (hb5.mono HB4.out.size))
  clear hb5 HA4 HQ4 HB4
  go_wp2_with fail
  go_loopw [34] (fun i W => ∃ j : Nat, j ≤ M.length ∧ i = .int .i64 j ∧ RecsIn W a1 M ∧ RecsIn W a2 M ∧ Below w.heap.size w W) (fun i _ => M.length - (intOf i).toNat)
  case atStart => exact ⟨0, by omega, rfl, HA5.out, HQ5.out, HB5.out⟩
  case round =>
    clear HA5 HQ5 HB5
    obtain ⟨j, hj, rfl, ha, hq, hb⟩ := hrel
    have HA := hide ha
    have HQ := hide hq
    have HB := hide hb
    clear ha hq hb
    by_cases hlt : j < M.length
    · obtain ⟨b, off, rfl, hbw, d0, d1⟩ := HA.out j hlt
      obtain ⟨g, off2, rfl, -, -, -⟩ := HQ.out j hlt
      have HONE := hide (recs_one HQ.out hlt)
      have hml : (M.getD j rc0).2.length ≤ 2100 := HMS.out _ (by simp [List.getD, hlt])
      generalize M.getD j rc0 = r at *
      have HRF := hide (fun c W h => rframe_any (some ⟨g, off2 + j * 2, none⟩) c [r] (by simp) (fun x hx => by simp at hx; subst hx; omega) W h)
      rw [show [r].length = 1 from rfl, (fr_one r).1, (fr_one r).2] at HRF
      have HRT := hide (fun W => rec_right r W)
      have HSZ := hide (fun W => rec_size r (by omega) W)
      have hj1 : (j : Int) + 1 ≤ (c2 : Int) := by omega
      have hrl : (bs (recL r)).size = 7 + r.2.length := by rw [bs_size, recL_length]
      have hr2 : (r.2.length : Int) ≤ 2100 := by omega
      cases hr : rightR r
      · rw [hr] at HRF HRT HSZ
        simp only [Bool.false_eq_true, if_false] at HRF HSZ
        have hbn : (bs ([] : List UInt8)).size = 0 := rfl
        clear hr
        obtain ⟨k, l⟩ := r
        dsimp only at *
        have HR6 := hide (rec_rows wr (k.toNat : Int) (bs l) 38)
        have HA6 := hide (HA.out.below ((Below.refl wr.heap.size wr).alloc (Nat.le_refl _) (.cells #[.int .u8 (k.toNat : Int), .string (bs l)] 38)))
        have HQ6 := hide (HQ.out.below ((Below.refl wr.heap.size wr).alloc (Nat.le_refl _) (.cells #[.int .u8 (k.toNat : Int), .string (bs l)] 38)))
        have HO6 := hide (HONE.out.below ((Below.refl wr.heap.size wr).alloc (Nat.le_refl _) (.cells #[.int .u8 (k.toNat : Int), .string (bs l)] 38)))
        have HB6 := hide (HB.out.alloc HB.out.size (.cells #[.int .u8 (k.toNat : Int), .string (bs l)] 38))
        clear HA HQ HONE HB
        generalize bs l = ls at *
        generalize (k.toNat : Int) = ki at *
        go_wp2_with fail
        refine (HRF.out _ _ HO6.out).mono ?_
        rintro e w7 ⟨rfl, hb7⟩
        have HA7 := hide (HA6.out.below hb7)
        have HQ7 := hide (HQ6.out.below hb7)
        have HB7 := hide (HB6.out.trans (hb7.mono HB6.out.size))
        have HR7 := hide ((hb7.block _ (heap_lt HR6.out)).trans HR6.out)
        obtain ⟨e0, e1, -, -⟩ := rec_facts HR7.out
        clear hb7 HA6 HQ6 HB6 HR6 HO6 d0 d1
        go_wp2_with fail
        refine (HRT.out _).mono ?_
        rintro e w8 ⟨rfl, hb8⟩
        have HA8 := hide (HA7.out.below hb8)
        have HQ8 := hide (HQ7.out.below hb8)
        have HB8 := hide (HB7.out.trans (hb8.mono HB7.out.size))
        have HR8 := hide ((hb8.block _ (heap_lt HR7.out)).trans HR7.out)
        clear hb8 HA7 HQ7 HB7 HR7 e0 e1
        obtain ⟨e0, e1, -, -⟩ := rec_facts HR8.out
        go_wp2_with fail
        refine (HSZ.out _).mono ?_
        rintro e w9 ⟨rfl, hb9⟩
        have HA9 := hide (HA8.out.below hb9)
        have HQ9 := hide (HQ8.out.below hb9)
        have HB9 := hide (HB8.out.trans (hb9.mono HB8.out.size))
        clear hb9 HA8 HQ8 HB8 HR8 e0 e1
        go_wp2_with fail
        go_roundw
        case rel => exact ⟨j + 1, by omega, by go_num, HA9.out, HQ9.out, HB9.out⟩
        case measure => simp [intOf]; omega
      · rw [hr] at HRF HRT HSZ
        simp only [if_true] at HRF HSZ
        have hcst : ((7 + r.2.length : Nat) : Int) = 7 + (r.2.length : Int) := by omega
        rw [hcst] at HSZ
        have hrli : ((bs (recL r)).size : Int) = 7 + (r.2.length : Int) := by rw [hrl, hcst]
        clear hcst hrl
        generalize bs (recL r) = X at *
        clear hr
        obtain ⟨k, l⟩ := r
        dsimp only at *
        have HR6 := hide (rec_rows wr (k.toNat : Int) (bs l) 38)
        have HA6 := hide (HA.out.below ((Below.refl wr.heap.size wr).alloc (Nat.le_refl _) (.cells #[.int .u8 (k.toNat : Int), .string (bs l)] 38)))
        have HQ6 := hide (HQ.out.below ((Below.refl wr.heap.size wr).alloc (Nat.le_refl _) (.cells #[.int .u8 (k.toNat : Int), .string (bs l)] 38)))
        have HO6 := hide (HONE.out.below ((Below.refl wr.heap.size wr).alloc (Nat.le_refl _) (.cells #[.int .u8 (k.toNat : Int), .string (bs l)] 38)))
        have HB6 := hide (HB.out.alloc HB.out.size (.cells #[.int .u8 (k.toNat : Int), .string (bs l)] 38))
        clear HA HQ HONE HB
        generalize bs l = ls at *
        generalize (k.toNat : Int) = ki at *
        go_wp2_with fail
        refine (HRF.out _ _ HO6.out).mono ?_
        rintro e w7 ⟨rfl, hb7⟩
        have HA7 := hide (HA6.out.below hb7)
        have HQ7 := hide (HQ6.out.below hb7)
        have HB7 := hide (HB6.out.trans (hb7.mono HB6.out.size))
        have HR7 := hide ((hb7.block _ (heap_lt HR6.out)).trans HR6.out)
        obtain ⟨e0, e1, -, -⟩ := rec_facts HR7.out
        clear hb7 HA6 HQ6 HB6 HR6 HO6 d0 d1
        go_wp2_with fail
        refine (HRT.out _).mono ?_
        rintro e w8 ⟨rfl, hb8⟩
        have HA8 := hide (HA7.out.below hb8)
        have HQ8 := hide (HQ7.out.below hb8)
        have HB8 := hide (HB7.out.trans (hb8.mono HB7.out.size))
        have HR8 := hide ((hb8.block _ (heap_lt HR7.out)).trans HR7.out)
        clear hb8 HA7 HQ7 HB7 HR7 e0 e1
        obtain ⟨e0, e1, -, -⟩ := rec_facts HR8.out
        go_wp2_with fail
        refine (HSZ.out _).mono ?_
        rintro e w9 ⟨rfl, hb9⟩
        have HA9 := hide (HA8.out.below hb9)
        have HQ9 := hide (HQ8.out.below hb9)
        have HB9 := hide (HB8.out.trans (hb9.mono HB8.out.size))
        clear hb9 HA8 HQ8 HB8 HR8 e0 e1
        go_wp2_with fail
        go_roundw
        case rel => exact ⟨j + 1, by omega, by go_num, HA9.out, HQ9.out, HB9.out⟩
        case measure => simp [intOf]; omega
    · obtain rfl : j = M.length := by omega
      go_wp2_with fail
      refine (HFRN.out _ _ _).mono ?_
      rintro e w6 ⟨rfl, hb6⟩
      have HB6 := hide (HB.out.trans (hb6.mono HB.out.size))
      clear hb6 HB
      go_wp2_with fail
      refine (wakes19 _).mono ?_
      rintro e w7 ⟨rfl, hb7⟩
      have HB7 := hide (HB6.out.trans (hb7.mono HB6.out.size))
      clear hb7 HB6
      go_wp2_with fail
      go_ret
      exact ⟨rfl, HB7.out⟩

set_option maxRecDepth 100000 in
theorem recFrames_lifted (os : Os) (started : os.Started) (H : Type) (enc : TypeId × Value → H) :
    ReturnsInHanded {} Try.checked os 3 .any (Rows.recFramesSpec.pre6 enc Try.prog Try.f3 Rows.recFramesRow.domain false) (Rows.recFramesSpec.post enc Try.prog Try.f3 false true false false) := by
  refine returnsInHanded_of_change (C := Try.checked) own started (by kernel_rfl) Try.func3
    (ChangeSpec.witness6 (enc := enc) (C := Try.checked) false ⟨#[], #[.slice none 0 0], []⟩ 8 (by kernel_rfl) (by kernel_rfl) (by kernel_rfl) (by kernel_rfl)) ?_
  intro W base args ds gs before hval0 hW _ _
  have hval : ∀ (j : Nat) t v, Try.f3.params[j]? = some t → args[j]? = some v → Value.okWide Try.prog W .any base t v := hval0
  have hW' := hW
  obtain ⟨p, q, hA0, hV, rfl, hfz, hnd⟩ := hW
  have hA : DataW.TrodAll enc Try.prog W 0 (fun _ => true) true Try.f3.params.toList args.toList ds p := hA0
  rw [Try.params3] at hA hval
  obtain ⟨v0, vs0, d0, ds0, p0, q0, hargs, rfl, rfl, h0, r0⟩ := trodAll_cons hA
  obtain ⟨rfl, rfl, rfl⟩ := trodAll_nil r0
  obtain rfl : args = #[v0] := by cases args; simp_all
  obtain ⟨rfl, rfl⟩ := trodVars_none hV
  have z0 := open_recs (hval 0 22 v0 rfl rfl) h0
  clear hA0 hval0
  refine (recFrames_walk v0 W z0).mono fun e W' ⟨he, hb⟩ => ?_
  subst he
  exact ⟨_, rfl, post_law laidOut (of_decide_eq_true (by kernel_rfl)) rfl rfl Try.underlying4 hW' ⟨rfl, rfl, rfl⟩ hb⟩

/-- THE STATEMENT -/
theorem recFrames_holds : Rows.RecFramesSaid :=
  OpenClaim.holds_of_wide 3 Try.f3 rfl rfl rfl rfl rfl rfl rfl ⟨rfl, rfl, rfl, rfl, rfl⟩ rfl rfl rfl rfl rfl (by kernel_rfl) Try.func3 (by kernel_rfl)
    (of_decide_eq_true (by kernel_rfl)) (by unfold Func.isWrapper; first | (rw [if_pos (by decide +kernel)]; kernel_rfl) | (rw [if_neg (by decide +kernel)]; exact ⟨rfl, rfl⟩))
    (fun os started H enc _ => recFrames_lifted os started H enc)

end Go.Proofs.Ytdjaldkjpmcbdaa
