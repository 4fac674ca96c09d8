/-
  Layer 14: BatchNone.
-/
import Derived.Test.YtjcekpiaklmnaaaGreatPk16
import Derived.Deep.CutBlock
--import Derived.Test.Zdbg
namespace Go.Proofs.YtjcekpiaklmnaaaGreat
set_option linter.unusedSimpArgs false
set_option linter.unusedVariables false
open Go.RowKit Go.WideShapes Go.ChangeShapes Go.ChangeAt Go.Deep
set_option maxRecDepth 100000 in
set_option maxHeartbeats 8000000 in
theorem batchNone_walk (data : ByteArray) (hcap : data.size ≤ 9223372036854775807) (n : Int) (n0 : -9223372036854775808 ≤ n) (n1 : n ≤ 9223372036854775807) (w : World) :
    Calls Tryz.prog 3 #[.string data, .int .i64 n] w fun e w' => e = .returned (.bool true) ∧ Below w.heap.size w w' := by
  obtain ⟨mx, hmx, m0⟩ : ∃ mx, max 0 n = mx ∧ 0 ≤ mx := ⟨_, rfl, by omega⟩
  have y1 : mx % 12 = mx.tmod 12 := by rw [Int.tmod_eq_emod_of_nonneg m0]
  obtain ⟨c, hc⟩ := Int.eq_ofNat_of_zero_le (show 0 ≤ 1 + mx % 12 by omega)
  have c1 : 1 ≤ c := by omega
  have c12 : c ≤ 12 := by omega
  have HFR := hide (fun W => fresh14 W)
  unfold Fresh14 at HFR
  have HP := hide (fun W => pnew_yes c c1 (by omega) W)
  have HB := hide (fun d b p q B G pp pq W (hD : DriveAt W d b p q B G bS0 bK0) (hP : PoolAt W pp pq (List.replicate c (1, 0))) => bnew_any c (by omega) W hD hP)
  unfold BNewIs at HB
  rw [show bS0.L.length = 6 from rfl] at HB
  obtain ⟨m, hm⟩ : ∃ m : Nat, min data.size 31 = m := ⟨_, rfl⟩
  have hmI : min (data.size : Int) 31 = (m : Int) := by omega
  have hmle : (m : Int) ≤ (data.size : Int) := by omega
  have hx : (data.extract 0 m).size ≤ 31 := by rw [ByteArray.size_extract]; omega
  have HPS := hide (fun q0 sb d b p q G pp pq W (hW : StAt W q0 sb d b p q q0 G bS0 bK0 pp pq bL0 (-1) 0) => put_size 1 0 0 0 1 (by unfold TagOk; decide) (data.extract 0 m) (by rw [show bS0.size = 32 from rfl]; omega) W hW)
  have HPT := hide (fun q0 sb d b p q G pp pq W (hW : StAt W q0 sb d b p q q0 G bS0 bK0 pp pq bL0 (-1) 0) t => put_tag (sb := sb) 1 0 0 n n (by unfold TagOk; omega) t W)
  have HFU := hide (fun W => full14_any ⟨#[]⟩ (by decide) 32 (by decide) W)
  have HPN := hide (fun W => put_none 0 0 0 0 0 data W)
  have HWK := hide (fun W => wakes14 W)
  have HCT := hide (fun p q B G W (hW : NandAt W p q B G bS0) => count_any p q B G bS0 W hW)
  have hct : bS0.progs = 0 ∧ bS0.eras = 0 := ⟨rfl, rfl⟩
  rw [hct.1, hct.2] at HCT
  clear hm hx c1 hct
  generalize bS0 = S0 at *
  generalize bK0 = K0 at *
  generalize bL0 = L0 at *
  go_enter Tryz.func3, Tryz.ntmps3
  go_wp2_with fail
  refine (HFR.out _).mono ?_
  rintro e w1 ⟨p, q, d, b, pp, pq, sb, G, rfl, hs, hb⟩
  obtain ⟨q0, hq0⟩ : ∃ q0, w.heap.size = q0 := ⟨_, rfl⟩
  rw [hq0] at hs hb
  have HQ0 := hide hq0
  have X1 := hide hs
  have B1 := hide hb
  clear hs hb hq0 HFR
  have HPS := hide (fun W hW => HPS.out q0 sb d b p q G pp pq W hW)
  have HPT := hide (fun W hW t => HPT.out q0 sb d b p q G pp pq W hW t)
  have HB := hide (fun pq W hD hP => HB.out d b p q q0 G (pq + 1) pq W hD hP)
  go_wp2_with fail
  (try rw [hmx]); rw [hc]
  refine (HP.out _).mono ?_
  rintro e w2 ⟨rfl, hp, hb⟩
  have P2 := hide hp
  have X2 := hide (X1.out.below hb)
  have B2 := hide (B1.out.trans (hb.mono X1.out.size))
  clear hp hb HP X1 B1
  generalize w1.heap.size = nq at *
  go_wp2_with fail
  refine (bnew_none1 _ _).mono ?_
  rintro e w3 ⟨rfl, rfl⟩
  go_wp2_with fail
  refine (bnew_none2 _ _).mono ?_
  rintro e w3 ⟨rfl, rfl⟩
  go_wp2_with fail
  refine (HB.out _ _ X2.out.drive P2.out).mono ?_
  rintro e w3 ⟨hcs, hb⟩
  have X3 := hide (X2.out.below hb)
  have B3 := hide (B2.out.trans (hb.mono X2.out.size))
  obtain ⟨sv, g, rfl, hg⟩ : ∃ sv g, e = .returned (.tuple #[sv, .int .i64 g]) ∧ (g == 0) = (1 + mx % 12 == 6) := by
    rcases hcs with ⟨h6, he, -, -⟩ | ⟨h6, he⟩
    · exact ⟨_, 0, he, by rw [hc, h6]; rfl⟩
    · exact ⟨_, 2, he, by rw [hc, show ((c : Int) == 6) = false from beq_eq_false_iff_ne.mpr (by omega)]; rfl⟩
  clear hcs hb hc X2 B2 P2 HB c12 y1
  have y1 : mx % 12 = mx.tmod 12 := by rw [Int.tmod_eq_emod_of_nonneg m0]
  go_wp2_with fail
  refine (close_none _).mono ?_
  rintro e w4 ⟨rfl, rfl⟩
  generalize w3 = w4 at *
  have Xw4 := hide X3.out
  have Bw4 := hide B3.out
  clear X3 B3
  go_wp2_with fail
  refine (HPN.out _).mono ?_
  rintro e w5a ⟨rfl, hb⟩
  have Xw5a := hide (Xw4.out.below hb)
  have Bw5a := hide (Bw4.out.trans (hb.mono Xw4.out.size))
  clear hb Xw4 Bw4
  go_upto_region 9 with (refine rw_store rfl 34 (.tmp 19) (.tmp 65) rfl w5a.heap.size rfl #[.int .i64 0, .int .i64 0] rfl _ (heap_new w5a _) (by kernel_rfl) rfl (by simp [Value.oneCell']) ?_)
  have hal := (Below.refl w5a.heap.size w5a).alloc (Nat.le_refl _) (.cells #[.int .i64 0, .int .i64 0] 34)
  have hbb := setRow_below (hal.trans (Below.refl _ _)) (Nat.le_refl _) hal.size (#[.int .i64 0, .int .i64 0] : Array Value)
  have Xw5 := hide (Xw5a.out.below hbb)
  have Bw5 := hide (Bw5a.out.trans (hbb.mono Xw5a.out.size))
  clear hal hbb Xw5a Bw5a HPN
  generalize (w5a.alloc (.cells #[.int .i64 0, .int .i64 0] 34)).setRow w5a.heap.size (#[.int .i64 0, .int .i64 0] : Array Value) = w5 at *
  generalize w5a.heap.size = ab8 at *
  go_wp2_with fail
  refine (HPS.out _ Xw5.out).mono ?_
  rintro e w6a ⟨rfl, hb⟩
  have Xw6a := hide (Xw5.out.below hb)
  have Bw6a := hide (Bw5.out.trans (hb.mono Xw5.out.size))
  clear hb Xw5 Bw5
  go_upto_region 10 with (refine rw_store rfl 34 (.tmp 21) (.tmp 76) rfl w6a.heap.size rfl #[.int .i64 0, .int .i64 0] rfl _ (heap_new w6a _) (by kernel_rfl) rfl (by simp [Value.oneCell']) ?_)
  have hal := (Below.refl w6a.heap.size w6a).alloc (Nat.le_refl _) (.cells #[.int .i64 0, .int .i64 0] 34)
  have hbb := setRow_below (hal.trans (Below.refl _ _)) (Nat.le_refl _) hal.size (#[.int .i64 0, .int .i64 0] : Array Value)
  have Xw6 := hide (Xw6a.out.below hbb)
  have Bw6 := hide (Bw6a.out.trans (hbb.mono Xw6a.out.size))
  clear hal hbb Xw6a Bw6a HPS
  generalize (w6a.alloc (.cells #[.int .i64 0, .int .i64 0] 34)).setRow w6a.heap.size (#[.int .i64 0, .int .i64 0] : Array Value) = w6 at *
  generalize w6a.heap.size = ab9 at *
  go_wp2_with fail
  refine (HFU.out _).mono ?_
  rintro e w7a ⟨rfl, hb⟩
  have Xw7a := hide (Xw6.out.below hb)
  have Bw7a := hide (Bw6.out.trans (hb.mono Xw6.out.size))
  clear hb Xw6 Bw6
  go_wp2_with fail
  refine (HPT.out _ Xw7a.out _).mono ?_
  rintro e w7b ⟨rfl, hb⟩
  have Xw7b := hide (Xw7a.out.below hb)
  have Bw7b := hide (Bw7a.out.trans (hb.mono Xw7a.out.size))
  clear hb Xw7a Bw7a
  go_upto_region 11 with (refine rw_store rfl 34 (.tmp 23) (.tmp 85) rfl w7b.heap.size rfl #[.int .i64 0, .int .i64 0] rfl _ (heap_new w7b _) (by kernel_rfl) rfl (by simp [Value.oneCell']) ?_)
  have hal := (Below.refl w7b.heap.size w7b).alloc (Nat.le_refl _) (.cells #[.int .i64 0, .int .i64 0] 34)
  have hbb := setRow_below (hal.trans (Below.refl _ _)) (Nat.le_refl _) hal.size (#[.int .i64 0, .int .i64 0] : Array Value)
  have Xw7 := hide (Xw7b.out.below hbb)
  have Bw7 := hide (Bw7b.out.trans (hbb.mono Xw7b.out.size))
  clear hal hbb Xw7b Bw7b HPT HFU
  generalize (w7b.alloc (.cells #[.int .i64 0, .int .i64 0] 34)).setRow w7b.heap.size (#[.int .i64 0, .int .i64 0] : Array Value) = w7 at *
  generalize w7b.heap.size = ab10 at *
  go_wp2_with fail
  refine (HCT.out _ _ _ _ _ Xw7.out.drive.chip).mono ?_
  rintro e w8 ⟨rfl, hb⟩
  have Bw8 := hide (Bw7.out.trans (hb.mono Xw7.out.size))
  have Xw8 := hide (Xw7.out.below hb)
  clear hb Xw7 Bw7 HCT
  go_wp2_with fail
  refine (HWK.out _).mono ?_
  rintro e w9 ⟨rfl, hb⟩
  have Bw9 := hide (Bw8.out.trans (hb.mono Xw8.out.size))
  clear hb Xw8 Bw8 HWK
  go_wp2_with fail
  refine (open_none _).mono ?_
  rintro e w10 ⟨rfl, rfl⟩
  go_wp2_with fail
  refine (room_none _).mono ?_
  rintro e w10 ⟨rfl, rfl⟩
  go_wp2_with fail
  refine (failed_none _).mono ?_
  rintro e w10 ⟨rfl, rfl⟩
  go_wp2_with fail
  go_ret
  exact ⟨rfl, by rw [HQ0.out]; exact Bw9.out⟩

set_option maxRecDepth 100000 in
theorem batchNone_lifted (os : Os) (started : os.Started) (H : Type) (enc : TypeId × Value → H) :
    ReturnsInHanded {} Tryz.checked os 3 .any (Rows.batchNoneSpec.pre6 enc Tryz.prog Tryz.f3 Rows.batchNoneRow.domain false) (Rows.batchNoneSpec.post enc Tryz.prog Tryz.f3 false true false false) := by
  refine returnsInHanded_of_change (C := Tryz.checked) own started (by kernel_rfl) Tryz.func3
    (ChangeSpec.witness6 (enc := enc) (C := Tryz.checked) false ⟨#[], #[.string ⟨#[]⟩, .int .i64 0], []⟩ 8 (by kernel_rfl) (by kernel_rfl) (by kernel_rfl) (by kernel_rfl)) ?_
  intro W base args ds gs before hval0 hW _ _
  have hval : ∀ (j : Nat) t v, Tryz.f3.params[j]? = some t → args[j]? = some v → Value.okWide Tryz.prog W .any base t v := hval0
  have hW' := hW
  obtain ⟨p, q, hA0, hV, rfl, hfz, hnd⟩ := hW
  have hA : DataW.TrodAll enc Tryz.prog W 0 (fun _ => true) true Tryz.f3.params.toList args.toList ds p := hA0
  rw [Tryz.params3] at hA hval
  obtain ⟨v0, vs0, d0, ds0, p0, q0, hargs, rfl, rfl, h0, r0⟩ := trodAll_cons hA
  obtain ⟨v1, vs1, d1, ds1, p1, q1, rfl, rfl, rfl, h1, r1⟩ := trodAll_cons r0
  obtain ⟨rfl, rfl, rfl⟩ := trodAll_nil r1
  obtain rfl : args = #[v0, v1] := by cases args; simp_all
  obtain ⟨rfl, rfl⟩ := trodVars_none hV
  obtain ⟨data, rfl, rfl, rfl, w0⟩ := ChangeMaps.open_string Tryz.underlying9 (hval 0 9 v0 rfl rfl) h0
  have z0 : data.size ≤ 9223372036854775807 := w0
  obtain ⟨n, rfl, rfl, rfl, w1⟩ := open_int Tryz.underlying3 (hval 1 3 v1 rfl rfl) h1
  have z1 := wf_i64 w1
  clear hA0 hval0
  refine (batchNone_walk data z0 n z1.1 z1.2 W).mono fun e W' ⟨he, hb⟩ => ?_
  subst he
  exact ⟨_, rfl, post_law laidOut (of_decide_eq_true (by kernel_rfl)) rfl rfl Tryz.underlying4 hW' ⟨rfl, rfl, rfl⟩ hb⟩

/-- THE STATEMENT -/
theorem batchNone_holds : Rows.BatchNoneSaid :=
  OpenClaim.holds_of_wide 3 Tryz.f3 rfl rfl rfl rfl rfl rfl rfl ⟨rfl, rfl, rfl, rfl, rfl⟩ rfl rfl rfl rfl rfl (by kernel_rfl) Tryz.func3 (by kernel_rfl)
    (of_decide_eq_true (by kernel_rfl)) (by unfold Func.isWrapper; first | (rw [if_pos (by decide +kernel)]; kernel_rfl) | (rw [if_neg (by decide +kernel)]; exact ⟨rfl, rfl⟩))
    (fun os started H enc _ => batchNone_lifted os started H enc)

end Go.Proofs.YtjcekpiaklmnaaaGreat
