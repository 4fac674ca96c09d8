/-
  Layer 17: LevelNone: what has not all its parts is told so, and where nothing is to be won or evened nothing is programmed.
-/
import Derived.Test.YtjfmkfhjbdiojaaGreatPk20
--import Derived.Test.Zdbg
namespace Go.Proofs.YtjfmkfhjbdiojaaGreat
set_option linter.unusedSimpArgs false
set_option linter.unusedVariables false
open Go.RowKit Go.WideShapes Go.ChangeShapes Go.ChangeAt Go.Deep W

theorem nums_pre {w : World} {k : IntKind} {a : Option Addr} {cap : Nat} {zs : List Int} (h : NumsAt w k (.slice a zs.length cap) zs) (j : Nat) (hj : j ≤ zs.length) : NumsAt w k (.slice a (zs.take j).length cap) (zs.take j) := by
  have hl : (zs.take j).length = j := by rw [List.length_take]; omega
  rcases Nat.eq_zero_or_pos j with rfl | hp
  · rcases h with ⟨h1, h2⟩ | ⟨b, off, c, h1, hc, hm, hp2, hi⟩ | ⟨a', c, h1, h2⟩
    · exact .inl ⟨by rw [hl]; subst h2; exact h1, by simp⟩
    · injection h1 with e1 e2 e3
      subst e1 e3
      exact .inr (.inr ⟨_, _, by rw [hl], by simp⟩)
    · injection h1 with e1 e2 e3
      subst e1 e3
      exact .inr (.inr ⟨_, _, by rw [hl], by simp⟩)
  · rcases h with ⟨h1, h2⟩ | ⟨b, off, c, h1, hc, hm, hp2, hi⟩ | ⟨a', c, h1, h2⟩
    · subst h2; simp at hj; omega
    · injection h1 with e1 e2 e3
      subst e1 e3
      refine .inr (.inl ⟨b, off, cap, rfl, by omega, hm, by omega, fun i hi2 => ?_⟩)
      rw [hi i (by omega)]
      have hij : i < j := by omega
      simp [List.getD, List.getElem?_take, hij]
    · subst h2; simp at hj; omega
set_option maxRecDepth 100000 in
set_option maxHeartbeats 16000000 in
theorem levelNone_walk (mo : Int) (v : Value) (w : World) (hv : ∃ zs : List Int, NumsAt w .i64 v zs ∧ (∀ z ∈ zs, (Lit.int .i64 z).wf = true) ∧ zs.length ≤ maxLen) : Calls Tryz.prog 5 #[.int .i64 mo, v] w fun e w' => e = .returned (.bool true) ∧ Below w.heap.size w w' := by
  obtain ⟨zs, hz, -, hzl⟩ := hv
  obtain ⟨za, zcap, rfl, hzc, -⟩ := nums16 hz
  have HFR := hide (fun W => fresh16 W)
  unfold Fresh16 at HFR
  have HWK := hide (fun W => wakes17 W)
  obtain ⟨Xs, hX0⟩ : ∃ Xs, mvX0 = Xs := ⟨_, rfl⟩
  have HC0 := hide mv17
  have HOK0 := hide mvX0_ok
  rw [hX0] at HFR HC0 HOK0
  clear hX0
  obtain ⟨m, hm⟩ : ∃ m, min zs.length 9 = m := ⟨_, rfl⟩
  have hmz : m ≤ zs.length := by omega
  have hjF : (if (9 : Int) < (zs.length : Int) then (9 : Int) else (zs.length : Int)) = (m : Int) := by split <;> omega
  have hjI : min (zs.length : Int) 9 = (m : Int) := by omega
  have hjc : (m : Int) ≤ (zcap : Int) := by omega
  have hns := nums_pre hz m hmz
  have hlk : (zs.take m).length = m := by rw [List.length_take]; omega
  have hm9 : m ≤ 1000 := by omega
  have NS := hide hns
  obtain ⟨sk, hsk⟩ : ∃ sk, zs.take m = sk := ⟨_, rfl⟩
  rw [hsk] at NS hlk
  have HW1 := hide (show ∀ A B0 W, MvAt W B0 A 9 5 Xs → NumsAt W .i64 (.slice za sk.length zcap) sk → Calls Tryz.prog 9 #[.agg #[.pointer (some ⟨A.d, 0, none⟩), .pointer (some ⟨A.pp, 0, none⟩), .pointer (some ⟨A.sb, 0, none⟩), .pointer (some ⟨A.mp, 0, none⟩)], .map none, .slice za sk.length zcap] W fun e w' => e = .returned (.tuple #[.bool false, .int .i64 0]) ∧ Below W.heap.size W w' from fun A B0 W hW hN => by
    obtain ⟨c0, hc⟩ := choose17_no HOK0.out HC0.out.2.2.2.1 sk
    exact win17_no HOK0.out (by decide) (by decide) (by decide) (by decide) za zcap sk (by omega) c0 hc W hW hN)
  have HE1 := hide (fun A B0 W (hW : MvAt W B0 A 9 5 Xs) (hN : NumsAt W .i64 (.slice za sk.length zcap) sk) => even17_no HOK0.out (by decide) (by decide) (by decide) (by decide) za zcap sk (by omega) mo 0 ⟨fun _ => rfl, fun _ => cold17_no HOK0.out HC0.out.2.2.2.1 mo (sk ++ [Xs.op])⟩ W hW hN)
  have HCO := hide (fun A B0 W (hW : MvAt W B0 A 9 5 Xs) => count_any A.p A.q A.B A.G Xs.S W hW.st.drive.chip)
  rw [HC0.out.2.2.2.2.2.1, HC0.out.2.2.2.2.2.2.1] at HCO
  rw [hlk] at NS HW1 HE1
  clear hns hz hzl hzc hm hmz hsk hlk hm9 HOK0 HC0
  obtain ⟨B0, hB0⟩ : ∃ B0, w.heap.size = B0 := ⟨_, rfl⟩
  rw [hB0]
  go_enter Tryz.func5, Tryz.ntmps5
  go_wp2_with fail
  refine (HFR.out _).mono ?_
  rintro e w1 ⟨A, rfl, hm, hb⟩
  have N1 := hide (NS.out.below hb)
  rw [hB0] at hm hb
  have X1 := hide hm
  have B1 := hide hb
  clear hm hb HFR hB0 NS
  go_upto_region 2 with (refine rw_store rfl 29 (.tmp 6) (.tmp 21) rfl w1.heap.size rfl #[.pointer (some ⟨A.d, 0, none⟩), .pointer (some ⟨A.pp, 0, none⟩), .pointer (some ⟨A.sb, 0, none⟩), .pointer (some ⟨A.mp, 0, none⟩)] rfl _ (heap_new w1 _) (by kernel_rfl) rfl (by simp [Value.oneCell']) ?_)
  have XB := hide (heap_new w1 (.cells #[.pointer none, .pointer none, .pointer none, .pointer none] 29))
  have hal := (Below.refl w1.heap.size w1).alloc (Nat.le_refl _) (.cells #[.pointer none, .pointer none, .pointer none, .pointer none] 29)
  have hbb := setRow_below (hal.trans (Below.refl _ _)) (Nat.le_refl _) hal.size (#[.pointer (some ⟨A.d, 0, none⟩), .pointer (some ⟨A.pp, 0, none⟩), .pointer (some ⟨A.sb, 0, none⟩), .pointer (some ⟨A.mp, 0, none⟩)] : Array Value)
  have M2 := hide (setRow_same (cs := (#[.pointer (some ⟨A.d, 0, none⟩), .pointer (some ⟨A.pp, 0, none⟩), .pointer (some ⟨A.sb, 0, none⟩), .pointer (some ⟨A.mp, 0, none⟩)] : Array Value)) XB.out)
  have X2 := hide (X1.out.below hbb)
  have B2 := hide (B1.out.trans (hbb.mono X1.out.size))
  have N2 := hide (N1.out.below hbb)
  clear N1
  clear hal hbb XB X1 B1 
  generalize (w1.alloc (.cells #[.pointer none, .pointer none, .pointer none, .pointer none] 29)).setRow w1.heap.size (#[.pointer (some ⟨A.d, 0, none⟩), .pointer (some ⟨A.pp, 0, none⟩), .pointer (some ⟨A.sb, 0, none⟩), .pointer (some ⟨A.mp, 0, none⟩)] : Array Value) = w2 at *
  generalize w1.heap.size = mb at *
  (try rw [show ∀ (a : Act) (v : Value), a.put none v = a from fun _ _ => rfl])
  go_wp2_with fail
  refine (win17_none (.slice za m zcap) 0 _).mono ?_
  rintro e w3 ⟨rfl, hb⟩
  have M3 := hide ((hb.block _ (heap_lt M2.out)).trans M2.out)
  have N3 := hide (N2.out.below hb)
  have X3 := hide (X2.out.below hb)
  have B3 := hide (B2.out.trans (hb.mono X2.out.size))
  clear hb X2 B2 M2 N2
  go_wp2_with fail
  refine (even17_none (.slice za m zcap) mo _).mono ?_
  rintro e w4 ⟨rfl, hb⟩
  have M4 := hide ((hb.block _ (heap_lt M3.out)).trans M3.out)
  have N4 := hide (N3.out.below hb)
  have X4 := hide (X3.out.below hb)
  have B4 := hide (B3.out.trans (hb.mono X3.out.size))
  clear hb X3 B3 M3 N3
  go_wp2_with (refine rw_load rfl 29 (.tmp 6) rfl mb rfl 29 #[.pointer (some ⟨A.d, 0, none⟩), .pointer (some ⟨A.pp, 0, none⟩), .pointer (some ⟨A.sb, 0, none⟩), .pointer (some ⟨A.mp, 0, none⟩)] (0, 0) _ M4.out Tryz.underlying29 rfl (by kernel_rfl) ?_)
  refine (HW1.out _ _ _ X4.out N4.out).mono ?_
  rintro e w5 ⟨rfl, hb⟩
  have M5 := hide ((hb.block _ (heap_lt M4.out)).trans M4.out)
  have N5 := hide (N4.out.below hb)
  have X5 := hide (X4.out.below hb)
  have B5 := hide (B4.out.trans (hb.mono X4.out.size))
  clear hb X4 B4 M4 N4
  go_wp2_with (refine rw_load rfl 29 (.tmp 6) rfl mb rfl 29 #[.pointer (some ⟨A.d, 0, none⟩), .pointer (some ⟨A.pp, 0, none⟩), .pointer (some ⟨A.sb, 0, none⟩), .pointer (some ⟨A.mp, 0, none⟩)] (0, 0) _ M5.out Tryz.underlying29 rfl (by kernel_rfl) ?_)
  refine (HE1.out _ _ _ X5.out N5.out).mono ?_
  rintro e w6 ⟨rfl, hb⟩
  have M6 := hide ((hb.block _ (heap_lt M5.out)).trans M5.out)
  have N6 := hide (N5.out.below hb)
  have X6 := hide (X5.out.below hb)
  have B6 := hide (B5.out.trans (hb.mono X5.out.size))
  clear hb X5 B5 M5 N5
  go_wp2_with fail
  refine (HCO.out _ _ _ X6.out).mono ?_
  rintro e w7 ⟨rfl, hb⟩
  have M7 := hide ((hb.block _ (heap_lt M6.out)).trans M6.out)
  have N7 := hide (N6.out.below hb)
  have X7 := hide (X6.out.below hb)
  have B7 := hide (B6.out.trans (hb.mono X6.out.size))
  clear hb X6 B6 M6 N6
  go_wp2_with fail
  refine (HWK.out _).mono ?_
  rintro e w8 ⟨rfl, hb⟩
  have B8 := hide (B7.out.trans (hb.mono X7.out.size))
  clear hb
  go_wp2_with fail
  go_ret
  exact ⟨rfl, B8.out⟩

set_option maxRecDepth 100000 in
theorem levelNone_lifted (os : Os) (started : os.Started) (H : Type) (enc : TypeId × Value → H) :
    ReturnsInHanded {} Tryz.checked os 5 .any (Rows.levelNoneSpec.pre6 enc Tryz.prog Tryz.f5 Rows.levelNoneRow.domain false) (Rows.levelNoneSpec.post enc Tryz.prog Tryz.f5 false true false false) := by
  refine returnsInHanded_of_change (C := Tryz.checked) own started (by kernel_rfl) Tryz.func5
    (ChangeSpec.witness6 (enc := enc) (C := Tryz.checked) false ⟨#[], #[.int .i64 0, .slice none 0 0], []⟩ 8 (by kernel_rfl) (by kernel_rfl) (by kernel_rfl) (by kernel_rfl)) ?_
  intro W base args ds gs before hval0 hW _ _
  have hval : ∀ (j : Nat) t v, Tryz.f5.params[j]? = some t → args[j]? = some v → Value.okWide Tryz.prog W .any base t v := hval0
  have hW' := hW
  obtain ⟨p, q, hA0, hV, rfl, hfz, hnd⟩ := hW
  have hA : DataW.TrodAll enc Tryz.prog W 0 (fun _ => true) true Tryz.f5.params.toList args.toList ds p := hA0
  rw [Tryz.params5] at hA hval
  obtain ⟨v0, vs0, d0, ds0, p0, q0, hargs, rfl, rfl, h0, r0⟩ := trodAll_cons hA
  obtain ⟨v1, vs1, d1, ds1, p1, q1, rfl, rfl, rfl, h1, r1⟩ := trodAll_cons r0
  obtain ⟨rfl, rfl, rfl⟩ := trodAll_nil r1
  obtain rfl : args = #[v0, v1] := by cases args; simp_all
  obtain ⟨rfl, rfl⟩ := trodVars_none hV
  obtain ⟨most, rfl, rfl, rfl, w0⟩ := open_int Tryz.underlying3 (hval 0 3 v0 rfl rfl) h0
  have z0 := wf_i64 w0
  have z1 := open_nums_slice Tryz.underlying59 Tryz.underlying3 (by kernel_rfl) (hval 1 59 v1 rfl rfl) h1
  clear hA0 hval0
  refine (levelNone_walk most v1 W z1).mono fun e W' ⟨he, hb⟩ => ?_
  subst he
  exact ⟨_, rfl, post_law laidOut (of_decide_eq_true (by kernel_rfl)) rfl rfl Tryz.underlying4 hW' ⟨rfl, rfl, rfl⟩ hb⟩

/-- THE STATEMENT -/
theorem levelNone_holds : Rows.LevelNoneSaid :=
  OpenClaim.holds_of_wide 5 Tryz.f5 rfl rfl rfl rfl rfl rfl rfl ⟨rfl, rfl, rfl, rfl, rfl⟩ rfl rfl rfl rfl rfl (by kernel_rfl) Tryz.func5 (by kernel_rfl)
    (of_decide_eq_true (by kernel_rfl)) (by unfold Func.isWrapper; first | (rw [if_pos (by decide +kernel)]; kernel_rfl) | (rw [if_neg (by decide +kernel)]; exact ⟨rfl, rfl⟩))
    (fun os started H enc _ => levelNone_lifted os started H enc)

end Go.Proofs.YtjfmkfhjbdiojaaGreat
