/-
  Layer 14: BatchFills.
-/
import Derived.Test.YtjcekpiaklmnaaaGreatPk16
import Derived.Deep.CutBlock
--import Derived.Test.Zdbg
namespace Go.Proofs.YtjcekpiaklmnaaaGreat
set_option linter.unusedSimpArgs false
set_option linter.unusedVariables false
open Go.RowKit Go.WideShapes Go.ChangeShapes Go.ChangeAt Go.Deep
set_option maxRecDepth 100000 in
set_option maxHeartbeats 8000000 in
theorem batchFills_walk (n : Int) (n0 : 0 ≤ n) (n1 : n ≤ 255) (w : World) :
    Calls Tryz.prog 4 #[.int .u8 n] w fun e w' => e = .returned (.bool true) ∧ Below w.heap.size w w' := by
  obtain ⟨c, hcI, hc59⟩ : ∃ c : Nat, n % 60 = (c : Int) ∧ c ≤ 59 := ⟨(n % 60).toNat, by omega, by omega⟩
  have hcT : n.tmod 60 = (c : Int) := by rw [Int.tmod_eq_emod_of_nonneg n0]; exact hcI
  have HC := hide hc59
  have HFR := hide (fun W => fresh14 W)
  unfold Fresh14 at HFR
  have HWK := hide (fun W => wakes14 W)
  have HFU := hide (fun W => full14_any ⟨#[]⟩ (by decide) 32 (by decide) W)
  have hfz : (fullB ⟨#[]⟩ 32).size = 32 := fullB_size _ _
  obtain ⟨td, htd⟩ : ∃ td : List UInt8, td = (fullB ⟨#[]⟩ 32).data.toList := ⟨_, rfl⟩
  have htb : fullB ⟨#[]⟩ 32 = bs td := by rw [htd]; rfl
  have hl : td.length = 32 := by rw [htb] at hfz; exact hfz
  rw [htb] at HFU
  clear htd hfz htb
  have HPU := hide (fun B0 sb d b p q B G pp pq S K t lf i op (hF : FilAt S K t lf i) (ho : 1 ≤ lf → op = (t : Int) - 1) (hi : i ≤ 59) W (hW : StAt W B0 sb d b p q B G S K pp pq (stL t) op (lf : Int)) => put14 hF ho hi td hl W hW)
  clear hl hc59
  have HF0 := hide fil_zero
  have hb0 : bL0 = stL 0 := rfl
  rw [hb0] at HFR
  clear hb0
  generalize bS0 = S0 at *
  generalize bK0 = K0 at *
  generalize bs td = t0 at *
  go_enter Tryz.func4, Tryz.ntmps4
  go_wp2_with fail
  refine (HFR.out _).mono ?_
  rintro e w1 ⟨p, q, d, b, pp, pq, sb, G, rfl, hs, hb⟩
  obtain ⟨q0, hq0⟩ : ∃ q0, w.heap.size = q0 := ⟨_, rfl⟩
  rw [hq0] at hs hb
  have HQ0 := hide hq0
  have X1 := hide hs
  have B1 := hide hb
  clear hs hb hq0 HFR
  have HPU := hide (fun S K t lf i op hF ho hi W hW => HPU.out q0 sb d b p q q0 G pp pq S K t lf i op hF ho hi W hW)
  go_wp2_with fail
  refine (HWK.out _).mono ?_
  rintro e w2 ⟨rfl, hb⟩
  have Xw2 := hide (X1.out.below hb)
  have Bw2 := hide (B1.out.trans (hb.mono X1.out.size))
  clear hb X1 B1 HWK
  go_upto_region 5 with (refine rw_store rfl 34 (.tmp 8) (.tmp 26) rfl w2.heap.size rfl #[.int .i64 (-1), .int .i64 0] rfl _ (heap_new w2 _) (by kernel_rfl) rfl (by simp [Value.oneCell']) ?_)
  have XB := hide (heap_new w2 (.cells #[.int .i64 0, .int .i64 0] 34))
  have hal := (Below.refl w2.heap.size w2).alloc (Nat.le_refl _) (.cells #[.int .i64 0, .int .i64 0] 34)
  have hbb := setRow_below (hal.trans (Below.refl _ _)) (Nat.le_refl _) hal.size (#[.int .i64 (-1), .int .i64 0] : Array Value)
  have Aw3 := hide (setRow_same (cs := (#[.int .i64 (-1), .int .i64 0] : Array Value)) XB.out)
  have Xw3 := hide (Xw2.out.below hbb)
  have Bw3 := hide (Bw2.out.trans (hbb.mono Xw2.out.size))
  have HAB := hide (show q0 ≤ w2.heap.size from Xw2.out.size)
  clear hal hbb XB Xw2 Bw2
  generalize (w2.alloc (.cells #[.int .i64 0, .int .i64 0] 34)).setRow w2.heap.size (#[.int .i64 (-1), .int .i64 0] : Array Value) = w3 at *
  generalize w2.heap.size = lb at *
  have HLB := hide HAB.out
  clear HAB
  go_upto_region 6 with (fail)
  go_loopw [30] (fun s W => ∃ (i t lf : Nat) (S : ChipM) (K : List KnM) (op lx ly : Int), i ≤ c ∧ s = .int .i64 (i : Int) ∧ FilAt S K t lf i ∧ (1 ≤ lf → op = (t : Int) - 1) ∧ StAt W q0 sb d b p q q0 G S K pp pq (stL t) op (lf : Int) ∧ W.heap[lb]? = some (.cells #[.int .i64 lx, .int .i64 ly] 34 (0, 0)) ∧ Below q0 w W ∧ ((t = 0 ∧ lf = 0 ∧ lx = -1 ∧ ly = 0) ∨ (1 ≤ t ∧ lx = (t : Int) - 1 ∧ ly = 3 - (lf : Int)))) (fun s _ => c - (intOf s).toNat)
  case atStart => exact ⟨0, 0, 0, S0, K0, -1, -1, 0, by omega, rfl, HF0.out, fun h => absurd h (by decide), Xw3.out, Aw3.out, Bw3.out, .inl ⟨rfl, rfl, rfl, rfl⟩⟩
  case round =>
    obtain ⟨i, t, lf, S, K, op, lx, ly, hic, rfl, hf, ho, hs, hla, hb, hla2⟩ := hrel
    have X4 := hide hs
    have L4 := hide hla
    have B4 := hide hb
    have F4 := hide hf
    have O4 := hide ho
    have W4 := hide hla2
    clear hs hla hb hf ho hla2 Xw3 Aw3 Bw3 HF0 hcI hcT
    rcases Nat.lt_or_ge i c with hlt | hge
    · have hltI : (i : Int) < (c : Int) := by omega
      have HLT := hide hlt
      go_wp2_with fail
      refine (HFU.out _).mono ?_
      rintro e w5 ⟨rfl, hb⟩
      have X5 := hide (X4.out.below hb)
      have L5 := hide ((hb.block _ (heap_lt L4.out)).trans L4.out)
      have B5 := hide (B4.out.trans (hb.mono X4.out.size))
      clear hb X4 L4 B4
      go_wp2_with fail
      refine (HPU.out S K t lf i op F4.out O4.out (by have := HC.out; omega) _ X5.out).mono ?_
      rintro e w6 hpost
      unfold Put14 at hpost
      rcases hpost with ⟨rfl, h18, hb⟩ | ⟨S', K', t', lf', bx, bz, rfl, hf, hs, hb, hbx, hbz, hcs⟩
      · have Bw6 := hide (B5.out.trans hb.1)
        have hi8 : ((i : Int) == 18) = true := by rw [h18]; rfl
        clear hb h18
        go_wp2_with (refine rw_store rfl 34 (.tmp 10) (.tmp 39) rfl w6.heap.size rfl #[.int .i64 0, .int .i64 0] rfl _ (heap_new w6 _) (by kernel_rfl) rfl (by simp [Value.oneCell']) ?_)
        go_ret
        exact ⟨rfl, by rw [HQ0.out]; exact Bw6.out.trans ((setRow_below ((Below.refl w6.heap.size w6).alloc (Nat.le_refl _) (.cells #[.int .i64 0, .int .i64 0] 34)) (Nat.le_refl _) (by simp) (#[.int .i64 0, .int .i64 0] : Array Value)).mono (by rw [← HQ0.out]; exact Bw6.out.size))⟩
      · have Xw6 := hide hs
        have L6 := hide (hb.keep L5.out (by decide))
        have Bw6 := hide (B5.out.trans hb.1)
        have F6 := hide hf
        have HW := hide (show (bx = lx ∧ IntKind.i64.wrap (ly + 1) = bz) ∨ (lx = -1 ∧ bx ≠ -1 ∧ bz = 1) ∨ (bx ≠ lx ∧ bz = 1 ∧ 0 ≤ lx ∧ ly = 3) from by
          have h1 := W4.out
          have h2 := hf.lf2
          have h3 := F4.out.lf2
          rcases hcs with ⟨e1, e2⟩ | ⟨e1, e2, e3⟩
          · rcases h1 with ⟨a1, a2, -, -⟩ | ⟨a1, a2, a3⟩
            · omega
            · exact .inl ⟨by omega, by rw [IntKind.wrap_i64]; omega⟩
          · rcases h1 with ⟨a1, a2, a3, a4⟩ | ⟨a1, a2, a3⟩
            · exact .inr (.inl ⟨a3, by omega, by omega⟩)
            · exact .inr (.inr ⟨by omega, by omega, by omega, by omega⟩))
        have HBX := hide (show bx = (t' : Int) - 1 ∧ bz = 3 - (lf' : Int) ∧ 1 ≤ t' from ⟨hbx, hbz, by have h1 := hf.cnt; omega⟩)
        clear hs hb hf hbx hbz hcs W4 F4 O4 X5 L5 B5
        go_upto_region 9 with (refine rw_store rfl 34 (.tmp 10) (.tmp 39) rfl w6.heap.size rfl #[.int .i64 bx, .int .i64 bz] rfl _ (heap_new w6 _) (by kernel_rfl) rfl (by simp [Value.oneCell']) ?_)
        have XB := hide (heap_new w6 (.cells #[.int .i64 0, .int .i64 0] 34))
        have hal := (Below.refl w6.heap.size w6).alloc (Nat.le_refl _) (.cells #[.int .i64 0, .int .i64 0] 34)
        have hbb := setRow_below (hal.trans (Below.refl _ _)) (Nat.le_refl _) hal.size (#[.int .i64 bx, .int .i64 bz] : Array Value)
        have Aw7 := hide (setRow_same (cs := (#[.int .i64 bx, .int .i64 bz] : Array Value)) XB.out)
        have Xw7 := hide (Xw6.out.below hbb)
        have L7 := hide ((hbb.block _ (heap_lt L6.out)).trans L6.out)
        clear L6
        have Bw7 := hide (Bw6.out.trans (hbb.mono Xw6.out.size))
        have HAB := hide (show q0 ≤ w6.heap.size from Xw6.out.size)
        clear hal hbb XB Xw6 Bw6
        generalize (w6.alloc (.cells #[.int .i64 0, .int .i64 0] 34)).setRow w6.heap.size (#[.int .i64 bx, .int .i64 bz] : Array Value) = w7 at *
        generalize w6.heap.size = ab at *
        go_upto_region 11 with (fail)
        have a0 := cell_of_block Aw7.out 0
        have a1 := cell_of_block Aw7.out 1
        have l0 := cell_of_block L7.out 0
        have l1 := cell_of_block L7.out 1
        go_cut [83] from 45 to 84 (fun s W => s = .bool false ∧ StAt W q0 sb d b p q q0 G S' K' pp pq (stL t') bx (lf' : Int) ∧ W.heap[lb]? = some (.cells #[.int .i64 lx, .int .i64 ly] 34 (0, 0)) ∧ W.heap[ab]? = some (.cells #[.int .i64 bx, .int .i64 bz] 34 (0, 0)) ∧ Below q0 w W)
        case first =>
          rcases HW.out with ⟨e1, e2⟩ | ⟨e1, e2, e3⟩ | ⟨e1, e2, e3, e4⟩
          · have g1 : (bx == lx) = true := beq_iff_eq.mpr e1
            have g2 : (bx != lx) = false := by rw [e1]; simp
            clear e1
            go_wp2_with fail
            go_meet
            exact ⟨rfl, Xw7.out, L7.out, Aw7.out, Bw7.out⟩
          · subst e1
            subst e3
            have g1 : (bx == -1) = false := beq_eq_false_iff_ne.mpr e2
            have g2 : (bx != -1) = true := bne_iff_ne.mpr e2
            clear e2
            go_wp2_with fail
            go_meet
            exact ⟨rfl, Xw7.out, L7.out, Aw7.out, Bw7.out⟩
          · subst e2
            subst e4
            have g1 : (bx == lx) = false := beq_eq_false_iff_ne.mpr e1
            have g2 : (bx != lx) = true := bne_iff_ne.mpr e1
            clear e1
            go_wp2_with fail
            go_meet
            exact ⟨rfl, Xw7.out, L7.out, Aw7.out, Bw7.out⟩
        case rest =>
        obtain ⟨rfl, hs, hla, haa, hb⟩ := hcut
        have X8 := hide hs
        have L8 := hide hla
        have A8 := hide haa
        have B8 := hide hb
        clear hs hla haa hb Xw7 L7 Aw7 Bw7 HW a0 a1 l0 l1
        go_upto_region 14 with (first | refine rw_load rfl 34 (.tmp 10) rfl ab rfl 34 #[.int .i64 bx, .int .i64 bz] (0, 0) _ A8.out Tryz.underlying34 rfl (by kernel_rfl) ?_ | refine rw_store rfl 34 (.tmp 8) (.tmp 84) rfl lb rfl #[.int .i64 bx, .int .i64 bz] rfl _ L8.out (by kernel_rfl) rfl (by simp [Value.oneCell']) ?_)
        have KF := setRow_keeps (Ts := [34]) L8.out (by decide) (#[.int .i64 bx, .int .i64 bz] : Array Value)
        have X9 := hide (X8.out.keepsT KF (by decide) (by decide) (by decide) (by decide) (by decide) (by decide) (by decide) (by decide))
        have L9 := hide (setRow_same (cs := (#[.int .i64 bx, .int .i64 bz] : Array Value)) L8.out)
        have B9 := hide (setRow_below B8.out HLB.out X8.out.size (#[.int .i64 bx, .int .i64 bz] : Array Value))
        clear KF A8 X8 L8 B8 HAB
        obtain ⟨w9, hw9⟩ : ∃ w9, wc.setRow lb (#[.int .i64 bx, .int .i64 bz] : Array Value) = w9 := ⟨_, rfl⟩
        rw [hw9] at X9 L9 B9 ⊢
        clear hw9
        have HEW := hide (fun k hk => fil_wear F6.out k hk)
        have HER := hide (fun bb W (hW : NandAt W p q q0 G S') => erases_any p q q0 G S' bb W hW)
        have HWE := hide (fun bb W (hW : PoolAt W pp pq (stL t')) => wear_any pp pq (stL t') bb W hW)
        go_upto_region 15 with (fail)
        go_loopw [85] (fun s W => ∃ k : Nat, k ≤ 6 ∧ s = .int .i64 (k : Int) ∧ W = w9) (fun s _ => 6 - (intOf s).toNat)
        case atStart => exact ⟨0, by omega, rfl, rfl⟩
        case round =>
          obtain ⟨k, hk, rfl, rfl⟩ := hrel
          rcases Nat.lt_or_ge k 6 with hk6 | hk6
          · have hkI : (k : Int) < 6 := by omega
            have hew := HEW.out k hk6
            obtain ⟨ez, hez⟩ : ∃ ez, erasesZ S' (k : Int) = ez := ⟨_, rfl⟩
            rw [hez] at hew
            have HE1 := hide (HER.out (k : Int))
            have HW1 := hide (HWE.out (k : Int))
            rw [hez] at HE1
            rw [← hew] at HW1
            clear hew hez
            go_wp2_with fail
            refine (HE1.out _ X9.out.drive.chip).mono ?_
            rintro e wx ⟨rfl, rfl⟩
            go_wp2_with fail
            refine (HW1.out _ X9.out.pool).mono ?_
            rintro e wx ⟨rfl, rfl⟩
            go_wp2_with fail
            go_roundw
            case rel => exact ⟨k + 1, by omega, by go_num, by first | trivial | rfl⟩
            case measure => simp [intOf]; omega
          · obtain rfl : k = 6 := by omega
            clear hk hk6
            have hc9 := HC.out
            have hlt9 := HLT.out
            go_wp2_with fail
            go_roundw
            case rel => exact ⟨i + 1, t', lf', S', K', bx, bx, bz, HLT.out, by go_num, F6.out, fun _ => HBX.out.1, X9.out, L9.out, B9.out, .inr ⟨HBX.out.2.2, HBX.out.1, HBX.out.2.1⟩⟩
            case measure => have := HLT.out; simp [intOf]; omega
    · obtain rfl : i = c := by omega
      clear hge hic
      go_wp2_with fail
      go_ret
      exact ⟨rfl, by rw [HQ0.out]; exact B4.out⟩

set_option maxRecDepth 100000 in
theorem batchFills_lifted (os : Os) (started : os.Started) (H : Type) (enc : TypeId × Value → H) :
    ReturnsInHanded {} Tryz.checked os 4 .any (Rows.batchFillsSpec.pre6 enc Tryz.prog Tryz.f4 Rows.batchFillsRow.domain false) (Rows.batchFillsSpec.post enc Tryz.prog Tryz.f4 false true false false) := by
  refine returnsInHanded_of_change (C := Tryz.checked) own started (by kernel_rfl) Tryz.func4
    (ChangeSpec.witness6 (enc := enc) (C := Tryz.checked) false ⟨#[], #[.int .u8 0], []⟩ 8 (by kernel_rfl) (by kernel_rfl) (by kernel_rfl) (by kernel_rfl)) ?_
  intro W base args ds gs before hval0 hW _ _
  have hval : ∀ (j : Nat) t v, Tryz.f4.params[j]? = some t → args[j]? = some v → Value.okWide Tryz.prog W .any base t v := hval0
  have hW' := hW
  obtain ⟨p, q, hA0, hV, rfl, hfz, hnd⟩ := hW
  have hA : DataW.TrodAll enc Tryz.prog W 0 (fun _ => true) true Tryz.f4.params.toList args.toList ds p := hA0
  rw [Tryz.params4] at hA hval
  obtain ⟨v0, vs0, d0, ds0, p0, q0, hargs, rfl, rfl, h0, r0⟩ := trodAll_cons hA
  obtain ⟨rfl, rfl, rfl⟩ := trodAll_nil r0
  obtain rfl : args = #[v0] := by cases args; simp_all
  obtain ⟨rfl, rfl⟩ := trodVars_none hV
  obtain ⟨n, rfl, rfl, rfl, w0⟩ := open_int Tryz.underlying5 (hval 0 5 v0 rfl rfl) h0
  have z0 := wf_u8 w0
  clear hA0 hval0
  refine (batchFills_walk n z0.1 z0.2 W).mono fun e W' ⟨he, hb⟩ => ?_
  subst he
  exact ⟨_, rfl, post_law laidOut (of_decide_eq_true (by kernel_rfl)) rfl rfl Tryz.underlying4 hW' ⟨rfl, rfl, rfl⟩ hb⟩

/-- THE STATEMENT -/
theorem batchFills_holds : Rows.BatchFillsSaid :=
  OpenClaim.holds_of_wide 4 Tryz.f4 rfl rfl rfl rfl rfl rfl rfl ⟨rfl, rfl, rfl, rfl, rfl⟩ rfl rfl rfl rfl rfl (by kernel_rfl) Tryz.func4 (by kernel_rfl)
    (of_decide_eq_true (by kernel_rfl)) (by unfold Func.isWrapper; first | (rw [if_pos (by decide +kernel)]; kernel_rfl) | (rw [if_neg (by decide +kernel)]; exact ⟨rfl, rfl⟩))
    (fun os started H enc _ => batchFills_lifted os started H enc)

end Go.Proofs.YtjcekpiaklmnaaaGreat
