/-
  Layer 5, the laws' calls: wakes.
-/
import Derived.Test.YthippbckjldijaaNand15
namespace Go.Proofs.Ythippbckjldijaa
set_option linter.unusedSimpArgs false
set_option linter.unusedVariables false
open Go.RowKit Go.WideShapes Go.ChangeShapes Go.ChangeAt Go.Deep

def wk1 : ChipM := badS (newS 4 2 32) [3]
def wkA : ByteArray := fullB ⟨#[97]⟩ 32
def wkB : ByteArray := fullB ⟨#[98]⟩ 32
def wk2 : ChipM := { wk1 with sins := 1 }
def wk3 : ChipM := (progT wk2 0 0 wkA wkB).1
theorem wk_one (d e : ByteArray) (hd : d.size = 32) (he : e.size = 32) : progT wk1 0 1 d e = (wk2, 11) := by
  unfold progT
  rw [if_neg (by decide +kernel), if_neg (by rw [hd, he]; decide +kernel)]
  rfl
theorem wk_two (d e : ByteArray) (hd : d.size = 32) (he : e.size = 32) : progT wk2 0 0 d e = (progS wk2 0 0 d e, 0) := by
  unfold progT
  rw [if_neg (by decide +kernel), if_neg (by rw [hd, he]; decide +kernel)]
  rfl
theorem wk_ok1 : NandOk wk1 := ⟨by decide +kernel, by decide +kernel, by decide +kernel, by decide +kernel, by decide +kernel, by decide +kernel⟩
theorem wk_ok2 : NandOk wk2 := ⟨by decide +kernel, by decide +kernel, by decide +kernel, by decide +kernel, by decide +kernel, by decide +kernel⟩
theorem wk_ask (b : Nat) (hb : b < 4) : askE wk3 (b : Int) 0 = 0 := by
  have h : wk3 = progS wk2 0 0 wkA wkB := by unfold wk3; rw [wk_two wkA wkB (fullB_size _ _) (fullB_size _ _)]
  rw [h]
  have h4 : b = 0 ∨ b = 1 ∨ b = 2 ∨ b = 3 := by omega
  rcases h4 with rfl | rfl | rfl | rfl <;> rfl
theorem wk3_eq : wk3 = progS wk2 0 0 wkA wkB := by unfold wk3; rw [wk_two wkA wkB (fullB_size _ _) (fullB_size _ _)]
theorem wk_read : readP wk3 0 0 = (wkA, wkB) := by rw [wk3_eq]; rfl
theorem wk_bad : (readP wk3 3 0).2 = zeroB ++ (filledP 32 ffB).2.extract 1 (filledP 32 ffB).2.size := by rw [wk3_eq]; rfl
theorem wk_sins : wk3.sins = 1 := by rw [wk3_eq]; rfl
theorem wk_next : nextZ wk3 0 = 1 := by rw [wk3_eq]; rfl
theorem wk_ask3 : askE wk3 3 0 = 0 := wk_ask 3 (by decide)
theorem wk_ask0 : askE wk3 0 0 = 0 := wk_ask 0 (by decide)
set_option maxRecDepth 100000 in
set_option maxHeartbeats 1000000 in
theorem wakes_any (w : World) : Calls Try.prog 10 #[] w fun e w' => e = .returned (.bool true) ∧ Below w.heap.size w w' := by
  have HF0 := hide (fun W => full_any ⟨#[]⟩ (by decide) 32 (by decide) W)
  have HFA := hide (fun W => full_any ⟨#[97]⟩ (by decide) 32 (by decide) W)
  have HFB := hide (fun W => full_any ⟨#[98]⟩ (by decide) 32 (by decide) W)
  have HFE := hide (fullB_size ⟨#[]⟩ 32)
  rw [show fullB ⟨#[97]⟩ 32 = wkA from rfl] at HFA
  rw [show fullB ⟨#[98]⟩ 32 = wkB from rfl] at HFB
  generalize fullB ⟨#[]⟩ 32 = tE at *
  obtain ⟨z, hz⟩ : ∃ z, (readP wk3 3 0).2 = z := ⟨_, rfl⟩
  have HZS := hide (show z.size = 32 by
    rw [← hz, wk_bad, ByteArray.size_append, ByteArray.size_extract, (filled_size 32 ffB (by decide)).2]; rfl)
  have HZ0 := hide (show z[0]? = some 0 by
    rw [← hz, wk_bad]
    rfl)
  have HNEW := hide (fun W v hv => new_go 4 2 32 (by decide) [3] v W hv (by decide))
  have HR0 := hide (fun p q B G W (h : NandAt W p q B G wk3) => read_any p q B G wk3 0 0 W h)
  rw [wk_read, wk_ask0] at HR0
  have HR3 := hide (fun p q B G W (h : NandAt W p q B G wk3) => read_any p q B G wk3 3 0 W h)
  rw [hz, wk_ask3] at HR3
  generalize (readP wk3 3 0).1 = z9 at *
  clear hz
  have HSI := hide (fun p q B G W (h : NandAt W p q B G wk3) => sins_any p q B G wk3 W h)
  rw [wk_sins] at HSI
  have HNX := hide (fun p q B G W (h : NandAt W p q B G wk3) => next_any p q B G wk3 0 W h)
  rw [wk_next] at HNX
  have HP1 := hide (fun p q B G W (h : NandAt W p q B G wk1) => program_any p q B G wk1 wk_ok1 0 1 tE tE W h)
  rw [wk_one tE tE HFE.out HFE.out] at HP1
  have HP2 := hide (fun p q B G W (h : NandAt W p q B G wk2) => program_any p q B G wk2 wk_ok2 0 0 wkA wkB W h)
  rw [show (progT wk2 0 0 wkA wkB).1 = wk3 from rfl, show (progT wk2 0 0 wkA wkB).2 = 0 by rw [wk_two wkA wkB (fullB_size _ _) (fullB_size _ _)]] at HP2
  go_enter Try.func10, Try.ntmps10
  go_wp2_with fail
  have hal1 := (Below.refl w.heap.size w).alloc (Nat.le_refl _) (.cells #[.int .i64 4, .int .i64 2, .int .i64 32] 26)
  have hal2 := hal1.alloc (by simp) (.cells #[.int .i64 3] 3)
  have hc3 := cell_of_block (heap_new (w.alloc (.cells #[.int .i64 4, .int .i64 2, .int .i64 32] 26)) (.cells #[.int .i64 3] 3)) 0
  rw [show (w.alloc (.cells #[.int .i64 4, .int .i64 2, .int .i64 32] 26)).heap.size = w.heap.size + 1 by simp] at hc3
  refine (HNEW.out _ _ (.inr (.inl ⟨w.heap.size + 1, 0, 1, rfl, by decide, by decide, by decide, fun i hi => ?_⟩))).mono ?_
  · obtain rfl : i = 0 := by
      have : i < 1 := hi
      omega
    exact hc3
  rintro e u0 ⟨P, Q, G, rfl, hn, hb⟩
  have B0 := hide (hal2.trans (hb.mono (by simp; omega)))
  have N0 := hide (show NandAt u0 P Q w.heap.size G wk1 from { hn with base := ⟨by have := hn.base.1; simp at this; omega, by have := hn.base.2.1; simp at this; omega, fun k hk => by have := hn.base.2.2 k hk; simp at this; omega⟩ })
  clear hn hb hal1 hal2 hc3
  go_wp2_with fail
  refine (HF0.out _).mono ?_
  rintro e u1 ⟨rfl, hb⟩
  have N1 := hide (N0.out.below hb)
  have B1 := hide (B0.out.trans (hb.mono B0.out.size))
  clear hb N0 B0
  go_wp2_with fail
  refine (HF0.out _).mono ?_
  rintro e u2 ⟨rfl, hb⟩
  have N2 := hide (N1.out.below hb)
  have B2 := hide (B1.out.trans (hb.mono B1.out.size))
  clear hb N1 B1
  go_wp2_with fail
  refine (HP1.out _ _ _ _ _ N2.out).mono ?_
  rintro e u3 ⟨rfl, hn, hb⟩
  have N3 := hide hn
  have B3 := hide (B2.out.trans hb.1)
  clear hn hb N2 B2
  go_wp2_with fail
  refine (HFA.out _).mono ?_
  rintro e u4 ⟨rfl, hb⟩
  have N4 := hide (N3.out.below hb)
  have B4 := hide (B3.out.trans (hb.mono B3.out.size))
  clear hb N3 B3
  go_wp2_with fail
  refine (HFB.out _).mono ?_
  rintro e u5 ⟨rfl, hb⟩
  have N5 := hide (N4.out.below hb)
  have B5 := hide (B4.out.trans (hb.mono B4.out.size))
  clear hb N4 B4
  go_wp2_with fail
  refine (HP2.out _ _ _ _ _ N5.out).mono ?_
  rintro e u6 ⟨rfl, hn, hb⟩
  have N6 := hide hn
  have B6 := hide (B5.out.trans hb.1)
  clear hn hb N5 B5
  go_wp2_with fail
  refine (HR0.out _ _ _ _ _ N6.out).mono ?_
  rintro e u7 ⟨rfl, hb⟩
  have N7 := hide (N6.out.below hb)
  have B7 := hide (B6.out.trans (hb.mono B6.out.size))
  clear hb N6 B6
  go_wp2_with fail
  refine (HR3.out _ _ _ _ _ N7.out).mono ?_
  rintro e u8 ⟨rfl, hb⟩
  have N8 := hide (N7.out.below hb)
  have B8 := hide (B7.out.trans (hb.mono B7.out.size))
  clear hb N7 B7
  have hzs := HZS.out
  have hzl : 0 < z.size := by omega
  have hzt : (z[0]'hzl).toNat = 0 := by
    have h1 := HZ0.out
    rw [getElem?_pos z 0 hzl] at h1
    rw [Option.some.inj h1]
    rfl
  go_wp2_with fail
  refine (HFA.out _).mono ?_
  rintro e u9 ⟨rfl, hb⟩
  have N9 := hide (N8.out.below hb)
  have B9 := hide (B8.out.trans (hb.mono B8.out.size))
  clear hb N8 B8
  go_wp2_with fail
  refine (HFB.out _).mono ?_
  rintro e u10 ⟨rfl, hb⟩
  have N10 := hide (N9.out.below hb)
  have B10 := hide (B9.out.trans (hb.mono B9.out.size))
  clear hb N9 B9
  go_wp2_with fail
  refine (HSI.out _ _ _ _ _ N10.out).mono ?_
  rintro e u10' ⟨rfl, rfl⟩
  go_wp2_with fail
  refine (HNX.out _ _ _ _ _ N10.out).mono ?_
  rintro e u10' ⟨rfl, rfl⟩
  go_wp2_with fail
  go_ret
  exact ⟨rfl, B10.out⟩
end Go.Proofs.Ythippbckjldijaa
