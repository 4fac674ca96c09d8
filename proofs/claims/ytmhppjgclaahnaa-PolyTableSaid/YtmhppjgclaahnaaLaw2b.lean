/-
  Layer 2: PolyTable.
-/
import Derived.Test.YtmhppjgclaahnaaLaw2
namespace Go.Proofs.Ytmhppjgclaahnaa
set_option linter.unusedSimpArgs false
set_option linter.unusedVariables false
open Go.RowKit Go.WideShapes Go.ChangeShapes Go.ChangeAt

theorem mN_one (x : UInt8) : mN (BitVec.ofNat 32 0) [x] = tabN x.toNat := by
  have h := mN_snoc (BitVec.ofNat 32 0) [] x
  rw [List.nil_append] at h
  rw [h]
  have e : mN (BitVec.ofNat 32 0) [] = 0 := by unfold mN; rfl
  rw [e]
  simp [pN]
theorem one_byte' (w : World) (q : Nat) (hq : q < 256) : (convert 36 9 (.slice (some ⟨w.heap.size, 0, none⟩) 1 1)).run Try.prog (w.alloc (.cells #[.int .u8 (q : Int)] 5)) = .ok (.string (bs [UInt8.ofNat q])) (w.alloc (.cells #[.int .u8 (q : Int)] 5)) := by
  have h := one_byte w q
  rw [Nat.mod_eq_of_lt hq, show (q : Int) % 256 = (q : Int) by omega] at h
  exact h
theorem one_byte_drew (w : World) (q : Nat) (hq : q < 256) : (convert 36 9 (.slice (some ⟨w.heap.size, 0, none⟩) 1 1)).run Try.prog (w.alloc (.cells #[.int .u8 (q : Int)] 5)).drew = .ok (.string (bs [UInt8.ofNat q])) (w.alloc (.cells #[.int .u8 (q : Int)] 5)).drew := by
  refine conv_bytes _ _ _ _ _ [UInt8.ofNat q] rfl (fun i hi => ?_)
  obtain rfl : i = 0 := by omega
  rw [show ∀ (W : World) a, W.drew.cell? a = W.cell? a from fun _ _ => rfl, World.cell?_alloc_new]
  simp
  omega
theorem one_back (q : Nat) (hq : q < 256) : mN (BitVec.ofNat 32 0) [UInt8.ofNat q] = tabN q := by
  rw [mN_one]; congr 1; simp; omega
theorem one_more (q : Nat) (hq : q < 256) (w : World) :
    Calls Try.prog 17 #[.int .u64 0, .string (bs [UInt8.ofNat q])] w fun e w' => e = .returned (.int .u64 (tabN q : Int)) ∧ w = w' := by
  have h := rmore_int 0 (by omega) (by omega) (bs [UInt8.ofNat q]) (by rw [bs_size]; simp) w
  rw [bs_toList, show (0 : Int).toNat = 0 from rfl, one_back q hq] at h
  exact h
theorem one_tab (q : Nat) (hq : q < 256) (b : Nat) (w : World) (ht : TabAt w b 0) :
    Calls Try.prog 16 #[.pointer (some ⟨b, 0, none⟩), .int .u32 0, .string (bs [UInt8.ofNat q])] w fun e w' => e = .returned (.int .u32 (tabN q : Int)) ∧ ∃ n, w' = w.drewN n := by
  have h := more_int b 0 0 (by omega) (by omega) (bs [UInt8.ofNat q]) (by rw [bs_size]; simp) w ht
  rw [bs_toList, show (0 : Int).toNat = 0 from rfl, one_back q hq] at h
  exact h
theorem tabN_wrap (k : Nat) : IntKind.u64.wrap (tabN k : Int) = (tabN k : Int) := by
  have := tabN_lt k
  exact wraps_u64 _ (by omega) (by omega)
set_option maxRecDepth 20000 in
set_option maxHeartbeats 1000000 in
theorem polyTable_walk (b : Int) (b0 : 0 ≤ b) (b1 : b ≤ 255) (w : World) :
    Calls Try.prog 4 #[.int .u8 b] w fun e w' => e = .returned (.bool true) ∧ Below w.heap.size w w' := by
  have z := (zero_of_info tab_zero).1
  have hsz := tabC_size 256
  have hst := tab_store
  go_enter Try.func4, Try.ntmps4
  go_wp2_with (first | (go_at_call 12; ((with_reducible refine (make_any _).mono ?_); rintro e w1 ⟨rfl, hb1⟩)))
  have hT1 := hide (tabAt_new w1)
  have hB1 := hide (hb1.alloc hb1.size (.cells (tabC 256) 24))
  have hL1 : w1.heap.size < (w1.alloc (.cells (tabC 256) 24)).heap.size := by simp
  generalize w1.alloc (.cells (tabC 256) 24) = w2 at hT1 hB1 hL1 ⊢
  go_loopw [6] (fun i wr => ∃ k : Nat, k ≤ 256 ∧ i = .int .i64 k ∧ Below w2.heap.size w2 wr) (fun i _ => 256 - (intOf i).toNat)
  case atStart => exact ⟨0, by omega, rfl, Below.refl _ _⟩
  case round =>
    obtain ⟨k, hk, rfl, hb⟩ := hrel
    by_cases hlt : k < 256
    · have hc := tabAt_below hT1.out hb hL1 k hlt
      rw [Nat.zero_add] at hc
      have hL : w1.heap.size < wr.heap.size := Nat.lt_of_lt_of_le hL1 hb.size
      have hcv := fun W : World => one_byte' W k hlt
      have hcd := fun W : World => one_byte_drew W k hlt
      have h8 : IntKind.u8.wrap (k : Int) = (k : Int) := wraps_u8 _ (by omega) (by omega)
      have hm := hide (fun W : World => one_more k hlt W)
      have hw := tabN_wrap k
      go_wp2
      go_region_with (go_at_call 17; ((with_reducible refine (hm.out _).mono ?_); rintro e w2 ⟨rfl, rfl⟩))
      all_goals
        go_wp2
        go_roundw
        case rel => exact ⟨k + 1, by omega, by go_num, by first | exact (hb.drew).alloc hb.size _ | exact (hb.alloc hb.size _).drew⟩
        case measure => simp [intOf]; omega
    · obtain rfl : k = 256 := by omega
      obtain ⟨q, rfl⟩ := Int.eq_ofNat_of_zero_le b0
      have hq : q < 256 := by omega
      have hcv := fun W : World => one_byte' W q hq
      have hm := hide (fun (b : Nat) (W : World) (hT : TabAt W b 0) => one_tab q hq b W hT)
      go_wp2
      go_region_with (first | (go_at_call 13; ((with_reducible refine (wakes2 _).mono ?_); rintro e w0 ⟨rfl, hb0⟩; have hT0 := tabAt_below (tabAt_drew (tabAt_below hT1.out hb hL1)) hb0 (Nat.lt_of_lt_of_le hL1 hb.size); have hc0 := hT0 q hq; rw [Nat.zero_add] at hc0; have hL0 : w1.heap.size < w0.heap.size := Nat.lt_of_lt_of_le (Nat.lt_of_lt_of_le hL1 hb.size) hb0.size)) | (go_at_call 16; ((with_reducible refine (hm.out _ _ (tabAt_alloc hT0 _ hL0)).mono ?_); rintro e w3 ⟨rfl, n, rfl⟩)))
      all_goals go_wp2
      all_goals go_ret
      all_goals exact ⟨rfl, below_drewN' (hB1.out.trans ((((hb.drew).trans (hb0.mono hb.size)).alloc (Nat.le_trans hb.size hb0.size) _).mono hB1.out.size)) _⟩

set_option maxRecDepth 100000 in
theorem polyTable_lifted (os : Os) (started : os.Started) (H : Type) (enc : TypeId × Value → H) :
    ReturnsInHanded {} Try.checked os 4 .any (Rows.polyTableSpec.pre6 enc Try.prog Try.f4 Rows.polyTableRow.domain false) (Rows.polyTableSpec.post enc Try.prog Try.f4 false true false false) := by
  refine returnsInHanded_of_change (C := Try.checked) own started (by kernel_rfl) Try.func4
    (ChangeSpec.witness6 (enc := enc) (C := Try.checked) false ⟨#[], #[.int .u8 0], []⟩ 8 (by kernel_rfl) (by kernel_rfl) (by kernel_rfl) (by kernel_rfl)) ?_
  intro W base args ds gs before hval0 hW _ _
  have hval : ∀ (j : Nat) t v, Try.f4.params[j]? = some t → args[j]? = some v → Value.okWide Try.prog W .any base t v := hval0
  have hW' := hW
  obtain ⟨p, q, hA0, hV, rfl, hfz, hnd⟩ := hW
  have hA : DataW.TrodAll enc Try.prog W 0 (fun _ => true) true Try.f4.params.toList args.toList ds p := hA0
  rw [Try.params4] at hA hval
  obtain ⟨v0, vs0, d0, ds0, p0, q0, hargs, rfl, rfl, h0, r0⟩ := trodAll_cons hA
  obtain ⟨rfl, rfl, rfl⟩ := trodAll_nil r0
  obtain rfl : args = #[v0] := by cases args; simp_all
  obtain ⟨rfl, rfl⟩ := trodVars_none hV
  obtain ⟨b, rfl, rfl, rfl, w0⟩ := open_int Try.underlying5 (hval 0 5 v0 rfl rfl) h0
  have z0 := wf_u8 w0
  clear hA0 hval0
  refine (polyTable_walk b z0.1 z0.2 W).mono fun e W' ⟨he, hb⟩ => ?_
  subst he
  exact ⟨_, rfl, post_law laidOut (of_decide_eq_true (by kernel_rfl)) rfl rfl Try.underlying4 hW' ⟨rfl, rfl, rfl⟩ hb⟩

/-- THE STATEMENT -/
theorem polyTable_holds : Rows.PolyTableSaid :=
  OpenClaim.holds_of_wide 4 Try.f4 rfl rfl rfl rfl rfl rfl rfl ⟨rfl, rfl, rfl, rfl, rfl⟩ rfl rfl rfl rfl rfl (by kernel_rfl) Try.func4 (by kernel_rfl)
    (of_decide_eq_true (by kernel_rfl)) (by unfold Func.isWrapper; first | (rw [if_pos (by decide +kernel)]; kernel_rfl) | (rw [if_neg (by decide +kernel)]; exact ⟨rfl, rfl⟩))
    (fun os started H enc _ => polyTable_lifted os started H enc)

end Go.Proofs.Ytmhppjgclaahnaa
