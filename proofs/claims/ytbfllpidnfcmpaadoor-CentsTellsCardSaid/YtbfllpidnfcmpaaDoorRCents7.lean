/-
  Layer 3: the document's Parse by contract.
-/
import Derived.Test.YtbfllpidnfcmpaaDoorRCents6
import Derived.Test.YtbfllpidnfcmpaaDoorCents9
import Derived.Test.YtbfllpidnfcmpaaDoorRCents2
import Derived.Test.YtbfllpidnfcmpaaDoorRCents4
import Derived.Test.YtbfllpidnfcmpaaDoorLaw3
namespace Go.Proofs.YtbfllpidnfcmpaaDoor
set_option linter.unusedSimpArgs false
set_option linter.unusedVariables false
open Go.RowKit Go.WideShapes Go.ChangeShapes Go.ChangeAt

theorem sb_at (l : List UInt8) (j : Nat) (h : j < (sb l).size) : ((sb l)[j]'h) = l.getD j 0 := by
  have h2 : j < l.length := h
  show (l.toArray)[j] = _
  simp [List.getD, h2]
theorem cutD (r : List UInt8) (p : Nat) (hp : r.length = p + 3) : (sb r).extract 0 p ++ (sb r).extract (p + 1) (p + 3) = sb (noPoint r) := by
  rw [sb_extract, sb_extract, sb_append, noPoint, hp]
  congr 1
  rw [List.drop_zero, show p + 3 - 3 = p by omega, show p + 3 - 2 = p + 1 by omega, Nat.sub_zero, show p + 3 - (p + 1) = 2 by omega, List.take_of_length_le (l := r.drop (p + 1)) (by simp; omega)]
theorem val_next (D : List UInt8) (k : Nat) (h : k < D.length) : valA 0 (D.take (k + 1)) = valA 0 (D.take k) * 10 + ((D.getD k 0).toNat - 48) := by
  rw [List.take_succ_eq_append_getElem h, valA_append]
  show valA 0 (D.take k) * 10 + (D[k].toNat - 48) = _
  simp [List.getD, h]
theorem getD_mem (D : List UInt8) (k : Nat) (h : k < D.length) : D.getD k 0 ∈ D := by
  rw [List.getD, List.getElem?_eq_getElem h]
  exact List.getElem_mem h
theorem sumE_in {s : Int} (h : sumE s = 0) : inR s := by unfold sumE at h; split at h; assumption; cases h
/-- the text's number is no amount's, or its text is another one -/
def NoText (s : List UInt8) : Prop := ∀ v, inR v → cText v ≠ s
theorem noText_b {s : List UInt8} (h : NoText s) (v : Int) (hv : inR v) : ((sb (cText v)).toList == (sb s).toList) = false := by
  rw [ByteArray.toList_eq, ByteArray.toList_eq, beq_eq_false_iff_ne]
  intro h2
  exact h v hv (by simpa [sb] using h2)
theorem rparse_empty (w : World) : Calls Tryd.prog 20 #[.string (sb [])] w fun e w' => e = .returned (.tuple #[.int .i64 0, .int .i64 4]) ∧ w = w' := by
  go_enter Tryd.func20, Tryd.ntmps20
  go_wp2_with fail
  go_ret2
  exact ⟨rfl, rfl⟩

set_option maxRecDepth 100000 in
theorem rparse_short_neg (r : List UInt8) (hr : r.length ≤ 100) (hb : r.length < 4) (w : World) :
    Calls Tryd.prog 20 #[.string (sb (45 :: r))] w fun e w' => e = .returned (.tuple #[.int .i64 0, .int .i64 4]) ∧ RowKit.Below w.heap.size w w' := by
  have hsz : (sb (45 :: r)).size = r.length + 1 := rfl
  have hsr : (sb r).size = r.length := rfl
  have hx : (sb (45 :: r)).extract 1 (r.length + 1) = sb r := sb_from1 (45 :: r) (r.length + 1) rfl
  have hi0 : ∀ h : 0 < (sb (45 :: r)).size, ((sb (45 :: r))[0]'h).toNat = 45 := fun h => by rw [sb_at]; rfl
  have hbi : (r.length : Int) < 4 := by omega
  generalize sb (45 :: r) = s at *
  generalize sb r = u at *
  generalize r.length = n at *
  go_enter Tryd.func20, Tryd.ntmps20
  go_wp2_with fail
  go_ret2
  exact ⟨rfl, RowKit.Below.refl _ _⟩

set_option maxRecDepth 100000 in
theorem rparse_long_neg (r : List UInt8) (hr : r.length ≤ 100) (hb : 20 < r.length) (w : World) :
    Calls Tryd.prog 20 #[.string (sb (45 :: r))] w fun e w' => e = .returned (.tuple #[.int .i64 0, .int .i64 4]) ∧ RowKit.Below w.heap.size w w' := by
  have hsz : (sb (45 :: r)).size = r.length + 1 := rfl
  have hsr : (sb r).size = r.length := rfl
  have hx : (sb (45 :: r)).extract 1 (r.length + 1) = sb r := sb_from1 (45 :: r) (r.length + 1) rfl
  have hi0 : ∀ h : 0 < (sb (45 :: r)).size, ((sb (45 :: r))[0]'h).toNat = 45 := fun h => by rw [sb_at]; rfl
  have hbi : ¬ (r.length : Int) < 4 := by omega
  have hbj : (20 : Int) < (r.length : Int) := by omega
  generalize sb (45 :: r) = s at *
  generalize sb r = u at *
  generalize r.length = n at *
  go_enter Tryd.func20, Tryd.ntmps20
  go_wp2_with fail
  go_ret2
  exact ⟨rfl, RowKit.Below.refl _ _⟩

set_option maxRecDepth 100000 in
theorem rparse_point_neg (r : List UInt8) (p : Nat) (hp : r.length = p + 3) (hp1 : 1 ≤ p) (hp2 : p ≤ 17) (hb : (r.getD p 0).toNat ≠ 46) (w : World) :
    Calls Tryd.prog 20 #[.string (sb (45 :: r))] w fun e w' => e = .returned (.tuple #[.int .i64 0, .int .i64 4]) ∧ RowKit.Below w.heap.size w w' := by
  have hsz : (sb (45 :: r)).size = r.length + 1 := rfl
  have hsr : (sb r).size = r.length := rfl
  have hx : (sb (45 :: r)).extract 1 (r.length + 1) = sb r := sb_from1 (45 :: r) (r.length + 1) rfl
  have hi0 : ∀ h : 0 < (sb (45 :: r)).size, ((sb (45 :: r))[0]'h).toNat = 45 := fun h => by rw [sb_at]; rfl
  have hpp : (r.length : Int) - 3 = (p : Int) := by omega
  have hpi : ∀ h : p < (sb r).size, ((sb r)[p]'h).toNat = (r.getD p 0).toNat := fun h => by rw [sb_at]
  have h4i : ¬ (r.length : Int) < 4 := by omega
  have h20i : ¬ (20 : Int) < (r.length : Int) := by omega
  have hpl : p < r.length := by omega
  have hcp : ((((r.getD p 0).toNat : Nat) : Int) != 46) = true := by rw [bne_iff_ne]; omega
  clear hp
  generalize sb (45 :: r) = s at *
  generalize sb r = u at *
  generalize r.length = n at *
  generalize (r.getD p 0).toNat = cp at *
  go_enter Tryd.func20, Tryd.ntmps20
  go_wp2_with fail
  go_ret2
  exact ⟨rfl, RowKit.Below.refl _ _⟩

set_option maxRecDepth 100000 in
theorem rparse_short_pos (r : List UInt8) (hr : r.length ≤ 100) (h0 : 0 < r.length) (h45 : (r.getD 0 0).toNat ≠ 45) (hb : r.length < 4) (w : World) :
    Calls Tryd.prog 20 #[.string (sb r)] w fun e w' => e = .returned (.tuple #[.int .i64 0, .int .i64 4]) ∧ RowKit.Below w.heap.size w w' := by
  have hsr : (sb r).size = r.length := rfl
  have hi0 : ∀ h : 0 < (sb r).size, ((sb r)[0]'h).toNat = (r.getD 0 0).toNat := fun h => by rw [sb_at]
  have hc0 : ((((r.getD 0 0).toNat : Nat) : Int) == 45) = false := by rw [beq_eq_false_iff_ne]; omega
  have hbi : (r.length : Int) < 4 := by omega
  generalize sb r = u at *
  generalize r.length = n at *
  generalize (r.getD 0 0).toNat = c0 at *
  go_enter Tryd.func20, Tryd.ntmps20
  go_wp2_with fail
  go_ret2
  exact ⟨rfl, RowKit.Below.refl _ _⟩

set_option maxRecDepth 100000 in
theorem rparse_long_pos (r : List UInt8) (hr : r.length ≤ 100) (h0 : 0 < r.length) (h45 : (r.getD 0 0).toNat ≠ 45) (hb : 20 < r.length) (w : World) :
    Calls Tryd.prog 20 #[.string (sb r)] w fun e w' => e = .returned (.tuple #[.int .i64 0, .int .i64 4]) ∧ RowKit.Below w.heap.size w w' := by
  have hsr : (sb r).size = r.length := rfl
  have hi0 : ∀ h : 0 < (sb r).size, ((sb r)[0]'h).toNat = (r.getD 0 0).toNat := fun h => by rw [sb_at]
  have hc0 : ((((r.getD 0 0).toNat : Nat) : Int) == 45) = false := by rw [beq_eq_false_iff_ne]; omega
  have hbi : ¬ (r.length : Int) < 4 := by omega
  have hbj : (20 : Int) < (r.length : Int) := by omega
  generalize sb r = u at *
  generalize r.length = n at *
  generalize (r.getD 0 0).toNat = c0 at *
  go_enter Tryd.func20, Tryd.ntmps20
  go_wp2_with fail
  go_ret2
  exact ⟨rfl, RowKit.Below.refl _ _⟩

set_option maxRecDepth 100000 in
theorem rparse_point_pos (r : List UInt8) (p : Nat) (hp : r.length = p + 3) (hp1 : 1 ≤ p) (hp2 : p ≤ 17) (h0 : 0 < r.length) (h45 : (r.getD 0 0).toNat ≠ 45) (hb : (r.getD p 0).toNat ≠ 46) (w : World) :
    Calls Tryd.prog 20 #[.string (sb r)] w fun e w' => e = .returned (.tuple #[.int .i64 0, .int .i64 4]) ∧ RowKit.Below w.heap.size w w' := by
  have hsr : (sb r).size = r.length := rfl
  have hi0 : ∀ h : 0 < (sb r).size, ((sb r)[0]'h).toNat = (r.getD 0 0).toNat := fun h => by rw [sb_at]
  have hc0 : ((((r.getD 0 0).toNat : Nat) : Int) == 45) = false := by rw [beq_eq_false_iff_ne]; omega
  have hpp : (r.length : Int) - 3 = (p : Int) := by omega
  have hpi : ∀ h : p < (sb r).size, ((sb r)[p]'h).toNat = (r.getD p 0).toNat := fun h => by rw [sb_at]
  have h4i : ¬ (r.length : Int) < 4 := by omega
  have h20i : ¬ (20 : Int) < (r.length : Int) := by omega
  have hpl : p < r.length := by omega
  have hcp : ((((r.getD p 0).toNat : Nat) : Int) != 46) = true := by rw [bne_iff_ne]; omega
  clear hp
  generalize sb r = u at *
  generalize r.length = n at *
  generalize (r.getD p 0).toNat = cp at *
  generalize (r.getD 0 0).toNat = c0 at *
  go_enter Tryd.func20, Tryd.ntmps20
  go_wp2_with fail
  go_ret2
  exact ⟨rfl, RowKit.Below.refl _ _⟩

set_option maxRecDepth 100000 in
set_option maxHeartbeats 800000 in
theorem rparse_neg_yes (r : List UInt8) (p : Nat) (hp : r.length = p + 3) (hp1 : 1 ≤ p) (hp2 : p ≤ 17) (h46 : (r.getD p 0).toNat = 46) (v : Int) (hv : inR v) (hs : cText v = (45 :: r)) (hD : noPoint r = bodyD v.natAbs) (hv0 : v < 0) (w : World) :
    Calls Tryd.prog 20 #[.string (sb (45 :: r))] w fun e w' => e = .returned (.tuple #[.int .i64 v, .int .i64 0]) ∧ RowKit.Below w.heap.size w w' := by
  have HDG := hide (body_all v.natAbs)
  have HBV := hide (body_val v.natAbs)
  have HTK := hide (valA_take (bodyD v.natAbs))
  rw [← hD] at HDG HBV HTK
  have HVA := hide (show (v.natAbs : Int) = -v by omega)
  have HVR := hide hv
  have HS := hide hs
  have HTXT := hide (fun W => rtext_any v hv W)
  rw [hs] at HTXT
  have hsz : (sb (45 :: r)).size = r.length + 1 := rfl
  have hsr : (sb r).size = r.length := rfl
  have hx : (sb (45 :: r)).extract 1 (r.length + 1) = sb r := sb_from1 (45 :: r) (r.length + 1) rfl
  have hi0 : ∀ h : 0 < (sb (45 :: r)).size, ((sb (45 :: r))[0]'h).toNat = 45 := fun h => by rw [sb_at]; rfl
  have hpp : (r.length : Int) - 3 = (p : Int) := by omega
  have hpp2 : (r.length : Int) - 2 = (p : Int) + 1 := by omega
  have hpi : ∀ h : p < (sb r).size, ((sb r)[p]'h).toNat = 46 := fun h => by rw [sb_at]; exact h46
  have h4i : ¬ (r.length : Int) < 4 := by omega
  have h20i : ¬ (20 : Int) < (r.length : Int) := by omega
  have hpl : p < r.length := by omega
  have hcut := cutD r p hp
  rw [← hp] at hcut
  have hDl : (noPoint r).length = p + 2 := by rw [noPoint]; simp; omega
  have HIX := hide (fun k h => show (((sb (noPoint r))[k]'h).toNat : Nat) = ((noPoint r).getD k 0).toNat by rw [sb_at])
  have hz1 : ((sb r).extract 0 p).size = p := by rw [ByteArray.size_extract]; omega
  have hz2 : ((sb r).extract (p + 1) r.length).size = 2 := by rw [ByteArray.size_extract]; omega
  have hzD : (sb (noPoint r)).size = p + 2 := hDl
  have HDL := hide hDl
  have HCUT := hide hcut
  have HZ1 := hide hz1
  have HZ2 := hide hz2
  have HZD := hide hzD
  clear hcut hDl hz1 hz2 hzD hp h46
  clear hs hD hv
  generalize sb (45 :: r) = s at *
  generalize sb r = u at *
  generalize r.length = n at *
  generalize noPoint r = D at *
  go_enter Tryd.func20, Tryd.ntmps20
  go_upto_region 7 with (fail)
  have hq1 : IntKind.i64.wrap ((n : Int) - 3) = (p : Int) := by rw [IntKind.wrap_i64]; omega
  have hq2 : IntKind.i64.wrap ((n : Int) - 2) = (p : Int) + 1 := by rw [IntKind.wrap_i64]; omega
  have hq3 : (0 : Int) ≤ (p : Int) := by omega
  have hq4 : (p : Int) ≤ (n : Int) := by omega
  have hq5 : (0 : Int) ≤ (p : Int) + 1 := by omega
  have hq6 : (p : Int) + 1 ≤ (n : Int) := by omega
  have hq7 : ((p : Int) + 1).toNat = p + 1 := by omega
  have hcut := HCUT.out
  have hz1 := HZ1.out
  have hz2 := HZ2.out
  have hq8 : ¬ 9223372036854775807 < p + 2 := by omega
  go_quiet (fail)
  clear hq1 hq2 hq3 hq4 hq5 hq6 hq7 hz1 hz2 hq8 hpp hpp2 hi0 hpi hx hsz
  clear hcut
  go_wp2_with fail
  go_loopw [6, 7] (fun nv iv W => ∃ (k : Nat) (cur : Int), k ≤ p + 2 ∧ iv = .int .i64 k ∧ nv = .int .i64 cur ∧ inR cur ∧ RowKit.Below w.heap.size w W ∧ cur = -((valA 0 (D.take k) : Nat) : Int)) (fun _ iv _ => p + 2 - (intOf iv).toNat)
  case atStart => exact ⟨0, 0, by omega, rfl, rfl, by unfold inR; omega, below_drewN (RowKit.Below.refl _ _) _, rfl⟩
  case round =>
    obtain ⟨k, cur, hk, rfl, rfl, hcr, hB, hcur⟩ := hrel
    have HB := hide hB
    have HCR := hide hcr
    have hszD := HZD.out
    clear hB hcr
    by_cases hlt : k < p + 2
    · have hix := HIX.out k
      have hd := HDG.out _ (getD_mem D k (by rw [HDL.out]; exact hlt))
      have hvn := val_next D k (by rw [HDL.out]; exact hlt)
      have hle := HTK.out (k + 1)
      rw [HBV.out] at hle
      have hva := HVA.out
      have hvr := HVR.out
      unfold inR at hvr
      have HVN := hide hvn
      generalize (D.getD k 0).toNat = x at *
      generalize hy1 : valA 0 (D.take (k + 1)) = y1 at *
      have HV1 := hide hy1
      clear hy1
      generalize valA 0 (D.take k) = y0 at *
      obtain ⟨d, hxd⟩ : ∃ d : Nat, x = 48 + d := ⟨x - 48, by omega⟩
      have hd10 : d < 10 := by omega
      have i1 : inR (cur * 10) := by unfold inR; omega
      have i2 : inR (cur * 10 + -(d : Int)) := by unfold inR; omega
      have hT := fun W => rtimes_any cur 10 HCR.out (by unfold inR; omega) W
      rw [(sum_in i1).1, (sum_in i1).2] at hT
      have hA := fun W => radd_any (cur * 10) (-(d : Int)) i1 (by unfold inR; omega) W
      rw [(sum_in i2).1, (sum_in i2).2] at hA
      have HT := hide hT
      have HA := hide hA
      have HI2 := hide i2
      have HY := hide (show cur * 10 + -(d : Int) = -((y1 : Nat) : Int) by omega)
      have hx1 : ¬ (x : Int) < 48 := by omega
      have hx2 : ¬ (57 : Int) < (x : Int) := by omega
      have hx3 : (x : Int) - 48 = (d : Int) := by omega
      clear hd hvn hle hva hvr hxd i1 i2 hT hA hcur
      go_wp2_with fail
      refine (HT.out _).mono ?_
      rintro e w' ⟨rfl, rfl⟩
      go_wp2_with fail
      refine (HA.out _).mono ?_
      rintro e w3 ⟨rfl, hb⟩
      have B3 := hide (below_trans HB.out hb)
      clear hb
      go_wp2_with fail
      go_roundw
      case rel => exact ⟨k + 1, _, by omega, by go_num, rfl, HI2.out, B3.out, HY.out.trans (by rw [HV1.out])⟩
      case measure => simp [intOf]; omega
    · obtain rfl : k = p + 2 := by omega
      have hcv : cur = v := by
        rw [List.take_of_length_le (by rw [HDL.out]; exact Nat.le_refl _), HBV.out] at hcur
        have := HVA.out
        omega
      subst hcv
      clear hcur
      go_wp2_with fail
      refine (HTXT.out _).mono ?_
      rintro e w3 ⟨rfl, hb⟩
      have B3 := hide (below_trans HB.out hb)
      clear hb
      go_wp2_with fail
      go_ret2
      exact ⟨rfl, B3.out⟩

set_option maxRecDepth 100000 in
set_option maxHeartbeats 800000 in
theorem rparse_neg_no (r : List UInt8) (p : Nat) (hp : r.length = p + 3) (hp1 : 1 ≤ p) (hp2 : p ≤ 17) (h46 : (r.getD p 0).toNat = 46) (hno : NoText (45 :: r)) (w : World) :
    Calls Tryd.prog 20 #[.string (sb (45 :: r))] w fun e w' => e = .returned (.tuple #[.int .i64 0, .int .i64 4]) ∧ RowKit.Below w.heap.size w w' := by
  have HNB := hide (fun v hv => noText_b hno v hv)
  have hsz : (sb (45 :: r)).size = r.length + 1 := rfl
  have hsr : (sb r).size = r.length := rfl
  have hx : (sb (45 :: r)).extract 1 (r.length + 1) = sb r := sb_from1 (45 :: r) (r.length + 1) rfl
  have hi0 : ∀ h : 0 < (sb (45 :: r)).size, ((sb (45 :: r))[0]'h).toNat = 45 := fun h => by rw [sb_at]; rfl
  have hpp : (r.length : Int) - 3 = (p : Int) := by omega
  have hpp2 : (r.length : Int) - 2 = (p : Int) + 1 := by omega
  have hpi : ∀ h : p < (sb r).size, ((sb r)[p]'h).toNat = 46 := fun h => by rw [sb_at]; exact h46
  have h4i : ¬ (r.length : Int) < 4 := by omega
  have h20i : ¬ (20 : Int) < (r.length : Int) := by omega
  have hpl : p < r.length := by omega
  have hcut := cutD r p hp
  rw [← hp] at hcut
  have hDl : (noPoint r).length = p + 2 := by rw [noPoint]; simp; omega
  have HIX := hide (fun k h => show (((sb (noPoint r))[k]'h).toNat : Nat) = ((noPoint r).getD k 0).toNat by rw [sb_at])
  have hz1 : ((sb r).extract 0 p).size = p := by rw [ByteArray.size_extract]; omega
  have hz2 : ((sb r).extract (p + 1) r.length).size = 2 := by rw [ByteArray.size_extract]; omega
  have hzD : (sb (noPoint r)).size = p + 2 := hDl
  have HDL := hide hDl
  have HCUT := hide hcut
  have HZ1 := hide hz1
  have HZ2 := hide hz2
  have HZD := hide hzD
  clear hcut hDl hz1 hz2 hzD hp h46
  clear hno
  generalize sb (45 :: r) = s at *
  generalize sb r = u at *
  generalize r.length = n at *
  generalize noPoint r = D at *
  go_enter Tryd.func20, Tryd.ntmps20
  go_upto_region 7 with (fail)
  have hq1 : IntKind.i64.wrap ((n : Int) - 3) = (p : Int) := by rw [IntKind.wrap_i64]; omega
  have hq2 : IntKind.i64.wrap ((n : Int) - 2) = (p : Int) + 1 := by rw [IntKind.wrap_i64]; omega
  have hq3 : (0 : Int) ≤ (p : Int) := by omega
  have hq4 : (p : Int) ≤ (n : Int) := by omega
  have hq5 : (0 : Int) ≤ (p : Int) + 1 := by omega
  have hq6 : (p : Int) + 1 ≤ (n : Int) := by omega
  have hq7 : ((p : Int) + 1).toNat = p + 1 := by omega
  have hcut := HCUT.out
  have hz1 := HZ1.out
  have hz2 := HZ2.out
  have hq8 : ¬ 9223372036854775807 < p + 2 := by omega
  go_quiet (fail)
  clear hq1 hq2 hq3 hq4 hq5 hq6 hq7 hz1 hz2 hq8 hpp hpp2 hi0 hpi hx hsz
  clear hcut
  go_wp2_with fail
  go_loopw [6, 7] (fun nv iv W => ∃ (k : Nat) (cur : Int), k ≤ p + 2 ∧ iv = .int .i64 k ∧ nv = .int .i64 cur ∧ inR cur ∧ RowKit.Below w.heap.size w W) (fun _ iv _ => p + 2 - (intOf iv).toNat)
  case atStart => exact ⟨0, 0, by omega, rfl, rfl, by unfold inR; omega, below_drewN (RowKit.Below.refl _ _) _⟩
  case round =>
    obtain ⟨k, cur, hk, rfl, rfl, hcr, hB⟩ := hrel
    have HB := hide hB
    have HCR := hide hcr
    have hszD := HZD.out
    clear hB hcr
    by_cases hlt : k < p + 2
    · have hix := HIX.out k
      generalize (D.getD k 0).toNat = x at *
      by_cases hx1 : (x : Int) < 48
      · go_wp2_with fail
        go_ret2
        exact ⟨rfl, HB.out⟩
      · by_cases hx2 : (57 : Int) < (x : Int)
        · go_wp2_with fail
          go_ret2
          exact ⟨rfl, HB.out⟩
        · obtain ⟨d, hxd⟩ : ∃ d : Nat, x = 48 + d := ⟨x - 48, by omega⟩
          have hd10 : d < 10 := by omega
          have hx3 : (x : Int) - 48 = (d : Int) := by omega
          have HT := hide (fun W => rtimes_any cur 10 HCR.out (by unfold inR; omega) W)
          have HI1 := hide (fun h : sumE (cur * 10) = 0 => sumE_in h)
          have HA := hide (fun W => radd_any (sumV (cur * 10)) (-(d : Int)) (sumV_in _) (by unfold inR; omega) W)
          have HI2 := hide (sumV_in (sumV (cur * 10) + -(d : Int)))
          have hs1 := sumE_two (cur * 10)
          have hs2 := sumE_two (sumV (cur * 10) + -(d : Int))
          generalize sumV (sumV (cur * 10) + -(d : Int)) = c2 at *
          generalize sumE (sumV (cur * 10) + -(d : Int)) = e2 at *
          generalize sumV (cur * 10) = c1 at *
          generalize sumE (cur * 10) = e1 at *
          clear hxd
          go_wp2_with fail
          refine (HT.out _).mono ?_
          rintro e w' ⟨rfl, rfl⟩
          rcases hs1 with rfl | rfl
          · go_wp2_with fail
            refine (HA.out _).mono ?_
            rintro e w3 ⟨rfl, hb⟩
            have B3 := hide (below_trans HB.out hb)
            clear hb
            rcases hs2 with rfl | rfl
            · go_wp2_with fail
              go_roundw
              case rel => exact ⟨k + 1, _, by omega, by go_num, rfl, HI2.out, B3.out⟩
              case measure => simp [intOf]; omega
            · go_wp2_with fail
              go_ret2
              exact ⟨rfl, B3.out⟩
          · go_wp2_with fail
            go_ret2
            exact ⟨rfl, HB.out⟩
    · obtain rfl : k = p + 2 := by omega
      have HTXT := hide (fun W => rtext_any cur HCR.out W)
      have hnb := HNB.out cur HCR.out
      generalize sb (cText cur) = T at *
      go_wp2_with fail
      refine (HTXT.out _).mono ?_
      rintro e w3 ⟨rfl, hb⟩
      have B3 := hide (below_trans HB.out hb)
      clear hb
      go_wp2_with fail
      go_ret2
      exact ⟨rfl, B3.out⟩

set_option maxRecDepth 100000 in
set_option maxHeartbeats 800000 in
theorem rparse_pos_yes (r : List UInt8) (p : Nat) (hp : r.length = p + 3) (hp1 : 1 ≤ p) (hp2 : p ≤ 17) (h0 : 0 < r.length) (h45 : (r.getD 0 0).toNat ≠ 45) (h46 : (r.getD p 0).toNat = 46) (v : Int) (hv : inR v) (hs : cText v = r) (hD : noPoint r = bodyD v.natAbs) (hv0 : 0 ≤ v) (w : World) :
    Calls Tryd.prog 20 #[.string (sb r)] w fun e w' => e = .returned (.tuple #[.int .i64 v, .int .i64 0]) ∧ RowKit.Below w.heap.size w w' := by
  have HDG := hide (body_all v.natAbs)
  have HBV := hide (body_val v.natAbs)
  have HTK := hide (valA_take (bodyD v.natAbs))
  rw [← hD] at HDG HBV HTK
  have HVA := hide (show (v.natAbs : Int) = v by omega)
  have HVR := hide hv
  have HS := hide hs
  have HTXT := hide (fun W => rtext_any v hv W)
  rw [hs] at HTXT
  have hsr : (sb r).size = r.length := rfl
  have hi0 : ∀ h : 0 < (sb r).size, ((sb r)[0]'h).toNat = (r.getD 0 0).toNat := fun h => by rw [sb_at]
  have hc0 : ((((r.getD 0 0).toNat : Nat) : Int) == 45) = false := by rw [beq_eq_false_iff_ne]; omega
  have hpp : (r.length : Int) - 3 = (p : Int) := by omega
  have hpp2 : (r.length : Int) - 2 = (p : Int) + 1 := by omega
  have hpi : ∀ h : p < (sb r).size, ((sb r)[p]'h).toNat = 46 := fun h => by rw [sb_at]; exact h46
  have h4i : ¬ (r.length : Int) < 4 := by omega
  have h20i : ¬ (20 : Int) < (r.length : Int) := by omega
  have hpl : p < r.length := by omega
  have hcut := cutD r p hp
  rw [← hp] at hcut
  have hDl : (noPoint r).length = p + 2 := by rw [noPoint]; simp; omega
  have HIX := hide (fun k h => show (((sb (noPoint r))[k]'h).toNat : Nat) = ((noPoint r).getD k 0).toNat by rw [sb_at])
  have hz1 : ((sb r).extract 0 p).size = p := by rw [ByteArray.size_extract]; omega
  have hz2 : ((sb r).extract (p + 1) r.length).size = 2 := by rw [ByteArray.size_extract]; omega
  have hzD : (sb (noPoint r)).size = p + 2 := hDl
  have HDL := hide hDl
  have HCUT := hide hcut
  have HZ1 := hide hz1
  have HZ2 := hide hz2
  have HZD := hide hzD
  clear hcut hDl hz1 hz2 hzD hp h46
  clear hs hD hv
  generalize sb r = u at *
  generalize r.length = n at *
  generalize (r.getD 0 0).toNat = c0 at *
  generalize noPoint r = D at *
  go_enter Tryd.func20, Tryd.ntmps20
  go_upto_region 7 with (fail)
  have hq1 : IntKind.i64.wrap ((n : Int) - 3) = (p : Int) := by rw [IntKind.wrap_i64]; omega
  have hq2 : IntKind.i64.wrap ((n : Int) - 2) = (p : Int) + 1 := by rw [IntKind.wrap_i64]; omega
  have hq3 : (0 : Int) ≤ (p : Int) := by omega
  have hq4 : (p : Int) ≤ (n : Int) := by omega
  have hq5 : (0 : Int) ≤ (p : Int) + 1 := by omega
  have hq6 : (p : Int) + 1 ≤ (n : Int) := by omega
  have hq7 : ((p : Int) + 1).toNat = p + 1 := by omega
  have hcut := HCUT.out
  have hz1 := HZ1.out
  have hz2 := HZ2.out
  have hq8 : ¬ 9223372036854775807 < p + 2 := by omega
  go_quiet (fail)
  clear hq1 hq2 hq3 hq4 hq5 hq6 hq7 hz1 hz2 hq8 hpp hpp2 hi0 hpi hc0
  clear hcut
  go_wp2_with fail
  go_loopw [6, 7] (fun nv iv W => ∃ (k : Nat) (cur : Int), k ≤ p + 2 ∧ iv = .int .i64 k ∧ nv = .int .i64 cur ∧ inR cur ∧ RowKit.Below w.heap.size w W ∧ cur = ((valA 0 (D.take k) : Nat) : Int)) (fun _ iv _ => p + 2 - (intOf iv).toNat)
  case atStart => exact ⟨0, 0, by omega, rfl, rfl, by unfold inR; omega, below_drewN (RowKit.Below.refl _ _) _, rfl⟩
  case round =>
    obtain ⟨k, cur, hk, rfl, rfl, hcr, hB, hcur⟩ := hrel
    have HB := hide hB
    have HCR := hide hcr
    have hszD := HZD.out
    clear hB hcr
    by_cases hlt : k < p + 2
    · have hix := HIX.out k
      have hd := HDG.out _ (getD_mem D k (by rw [HDL.out]; exact hlt))
      have hvn := val_next D k (by rw [HDL.out]; exact hlt)
      have hle := HTK.out (k + 1)
      rw [HBV.out] at hle
      have hva := HVA.out
      have hvr := HVR.out
      unfold inR at hvr
      have HVN := hide hvn
      generalize (D.getD k 0).toNat = x at *
      generalize hy1 : valA 0 (D.take (k + 1)) = y1 at *
      have HV1 := hide hy1
      clear hy1
      generalize valA 0 (D.take k) = y0 at *
      obtain ⟨d, hxd⟩ : ∃ d : Nat, x = 48 + d := ⟨x - 48, by omega⟩
      have hd10 : d < 10 := by omega
      have i1 : inR (cur * 10) := by unfold inR; omega
      have i2 : inR (cur * 10 + (d : Int)) := by unfold inR; omega
      have hT := fun W => rtimes_any cur 10 HCR.out (by unfold inR; omega) W
      rw [(sum_in i1).1, (sum_in i1).2] at hT
      have hA := fun W => radd_any (cur * 10) ((d : Int)) i1 (by unfold inR; omega) W
      rw [(sum_in i2).1, (sum_in i2).2] at hA
      have HT := hide hT
      have HA := hide hA
      have HI2 := hide i2
      have HY := hide (show cur * 10 + (d : Int) = ((y1 : Nat) : Int) by omega)
      have hx1 : ¬ (x : Int) < 48 := by omega
      have hx2 : ¬ (57 : Int) < (x : Int) := by omega
      have hx3 : (x : Int) - 48 = (d : Int) := by omega
      clear hd hvn hle hva hvr hxd i1 i2 hT hA hcur
      go_wp2_with fail
      refine (HT.out _).mono ?_
      rintro e w' ⟨rfl, rfl⟩
      go_wp2_with fail
      refine (HA.out _).mono ?_
      rintro e w3 ⟨rfl, hb⟩
      have B3 := hide (below_trans HB.out hb)
      clear hb
      go_wp2_with fail
      go_roundw
      case rel => exact ⟨k + 1, _, by omega, by go_num, rfl, HI2.out, B3.out, HY.out.trans (by rw [HV1.out])⟩
      case measure => simp [intOf]; omega
    · obtain rfl : k = p + 2 := by omega
      have hcv : cur = v := by
        rw [List.take_of_length_le (by rw [HDL.out]; exact Nat.le_refl _), HBV.out] at hcur
        have := HVA.out
        omega
      subst hcv
      clear hcur
      go_wp2_with fail
      refine (HTXT.out _).mono ?_
      rintro e w3 ⟨rfl, hb⟩
      have B3 := hide (below_trans HB.out hb)
      clear hb
      go_wp2_with fail
      go_ret2
      exact ⟨rfl, B3.out⟩

set_option maxRecDepth 100000 in
set_option maxHeartbeats 800000 in
theorem rparse_pos_no (r : List UInt8) (p : Nat) (hp : r.length = p + 3) (hp1 : 1 ≤ p) (hp2 : p ≤ 17) (h0 : 0 < r.length) (h45 : (r.getD 0 0).toNat ≠ 45) (h46 : (r.getD p 0).toNat = 46) (hno : NoText r) (w : World) :
    Calls Tryd.prog 20 #[.string (sb r)] w fun e w' => e = .returned (.tuple #[.int .i64 0, .int .i64 4]) ∧ RowKit.Below w.heap.size w w' := by
  have HNB := hide (fun v hv => noText_b hno v hv)
  have hsr : (sb r).size = r.length := rfl
  have hi0 : ∀ h : 0 < (sb r).size, ((sb r)[0]'h).toNat = (r.getD 0 0).toNat := fun h => by rw [sb_at]
  have hc0 : ((((r.getD 0 0).toNat : Nat) : Int) == 45) = false := by rw [beq_eq_false_iff_ne]; omega
  have hpp : (r.length : Int) - 3 = (p : Int) := by omega
  have hpp2 : (r.length : Int) - 2 = (p : Int) + 1 := by omega
  have hpi : ∀ h : p < (sb r).size, ((sb r)[p]'h).toNat = 46 := fun h => by rw [sb_at]; exact h46
  have h4i : ¬ (r.length : Int) < 4 := by omega
  have h20i : ¬ (20 : Int) < (r.length : Int) := by omega
  have hpl : p < r.length := by omega
  have hcut := cutD r p hp
  rw [← hp] at hcut
  have hDl : (noPoint r).length = p + 2 := by rw [noPoint]; simp; omega
  have HIX := hide (fun k h => show (((sb (noPoint r))[k]'h).toNat : Nat) = ((noPoint r).getD k 0).toNat by rw [sb_at])
  have hz1 : ((sb r).extract 0 p).size = p := by rw [ByteArray.size_extract]; omega
  have hz2 : ((sb r).extract (p + 1) r.length).size = 2 := by rw [ByteArray.size_extract]; omega
  have hzD : (sb (noPoint r)).size = p + 2 := hDl
  have HDL := hide hDl
  have HCUT := hide hcut
  have HZ1 := hide hz1
  have HZ2 := hide hz2
  have HZD := hide hzD
  clear hcut hDl hz1 hz2 hzD hp h46
  clear hno
  generalize sb r = u at *
  generalize r.length = n at *
  generalize (r.getD 0 0).toNat = c0 at *
  generalize noPoint r = D at *
  go_enter Tryd.func20, Tryd.ntmps20
  go_upto_region 7 with (fail)
  have hq1 : IntKind.i64.wrap ((n : Int) - 3) = (p : Int) := by rw [IntKind.wrap_i64]; omega
  have hq2 : IntKind.i64.wrap ((n : Int) - 2) = (p : Int) + 1 := by rw [IntKind.wrap_i64]; omega
  have hq3 : (0 : Int) ≤ (p : Int) := by omega
  have hq4 : (p : Int) ≤ (n : Int) := by omega
  have hq5 : (0 : Int) ≤ (p : Int) + 1 := by omega
  have hq6 : (p : Int) + 1 ≤ (n : Int) := by omega
  have hq7 : ((p : Int) + 1).toNat = p + 1 := by omega
  have hcut := HCUT.out
  have hz1 := HZ1.out
  have hz2 := HZ2.out
  have hq8 : ¬ 9223372036854775807 < p + 2 := by omega
  go_quiet (fail)
  clear hq1 hq2 hq3 hq4 hq5 hq6 hq7 hz1 hz2 hq8 hpp hpp2 hi0 hpi hc0
  clear hcut
  go_wp2_with fail
  go_loopw [6, 7] (fun nv iv W => ∃ (k : Nat) (cur : Int), k ≤ p + 2 ∧ iv = .int .i64 k ∧ nv = .int .i64 cur ∧ inR cur ∧ RowKit.Below w.heap.size w W) (fun _ iv _ => p + 2 - (intOf iv).toNat)
  case atStart => exact ⟨0, 0, by omega, rfl, rfl, by unfold inR; omega, below_drewN (RowKit.Below.refl _ _) _⟩
  case round =>
    obtain ⟨k, cur, hk, rfl, rfl, hcr, hB⟩ := hrel
    have HB := hide hB
    have HCR := hide hcr
    have hszD := HZD.out
    clear hB hcr
    by_cases hlt : k < p + 2
    · have hix := HIX.out k
      generalize (D.getD k 0).toNat = x at *
      by_cases hx1 : (x : Int) < 48
      · go_wp2_with fail
        go_ret2
        exact ⟨rfl, HB.out⟩
      · by_cases hx2 : (57 : Int) < (x : Int)
        · go_wp2_with fail
          go_ret2
          exact ⟨rfl, HB.out⟩
        · obtain ⟨d, hxd⟩ : ∃ d : Nat, x = 48 + d := ⟨x - 48, by omega⟩
          have hd10 : d < 10 := by omega
          have hx3 : (x : Int) - 48 = (d : Int) := by omega
          have HT := hide (fun W => rtimes_any cur 10 HCR.out (by unfold inR; omega) W)
          have HI1 := hide (fun h : sumE (cur * 10) = 0 => sumE_in h)
          have HA := hide (fun W => radd_any (sumV (cur * 10)) ((d : Int)) (sumV_in _) (by unfold inR; omega) W)
          have HI2 := hide (sumV_in (sumV (cur * 10) + (d : Int)))
          have hs1 := sumE_two (cur * 10)
          have hs2 := sumE_two (sumV (cur * 10) + (d : Int))
          generalize sumV (sumV (cur * 10) + (d : Int)) = c2 at *
          generalize sumE (sumV (cur * 10) + (d : Int)) = e2 at *
          generalize sumV (cur * 10) = c1 at *
          generalize sumE (cur * 10) = e1 at *
          clear hxd
          go_wp2_with fail
          refine (HT.out _).mono ?_
          rintro e w' ⟨rfl, rfl⟩
          rcases hs1 with rfl | rfl
          · go_wp2_with fail
            refine (HA.out _).mono ?_
            rintro e w3 ⟨rfl, hb⟩
            have B3 := hide (below_trans HB.out hb)
            clear hb
            rcases hs2 with rfl | rfl
            · go_wp2_with fail
              go_roundw
              case rel => exact ⟨k + 1, _, by omega, by go_num, rfl, HI2.out, B3.out⟩
              case measure => simp [intOf]; omega
            · go_wp2_with fail
              go_ret2
              exact ⟨rfl, B3.out⟩
          · go_wp2_with fail
            go_ret2
            exact ⟨rfl, HB.out⟩
    · obtain rfl : k = p + 2 := by omega
      have HTXT := hide (fun W => rtext_any cur HCR.out W)
      have hnb := HNB.out cur HCR.out
      generalize sb (cText cur) = T at *
      go_wp2_with fail
      refine (HTXT.out _).mono ?_
      rintro e w3 ⟨rfl, hb⟩
      have B3 := hide (below_trans HB.out hb)
      clear hb
      go_wp2_with fail
      go_ret2
      exact ⟨rfl, B3.out⟩
end Go.Proofs.YtbfllpidnfcmpaaDoor
