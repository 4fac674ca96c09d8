/-
  Layer 3's laws: CentsOrder, where the list has nothing.
-/
import Derived.Test.YtbfllpidnfcmpaaDoorLaw3e
import Derived.Test.YtbfllpidnfcmpaaDoorLaw3
namespace Go.Proofs.YtbfllpidnfcmpaaDoor
set_option linter.unusedSimpArgs false
set_option linter.unusedVariables false
open Go.RowKit Go.WideShapes Go.ChangeShapes Go.ChangeAt


set_option maxRecDepth 100000 in
set_option maxHeartbeats 400000 in
theorem order_none (w : World) (T C : Nat) (hT : T < 256) (hC : C < 256) (htab : Tab w) :
    Calls Tryd.prog 6 #[.slice none 0 0, .int .u8 (T : Int), .int .u8 (C : Int)] w fun e w' => e = .returned (.bool true) ∧ RowKit.Below w.heap.size w w' := by
  have HT := hide htab
  have hwC : wrap64 (C : Int) = C := by unfold wrap64; omega
  have hz : (C : Int) % (max (min 0 60) 0 + 1) = 0 := by
    rw [show (max (min 0 60) 0 + 1 : Int) = 1 by decide]
    omega
  have HZ := hide hz
  clear htab hz
  go_enter Tryd.func6, Tryd.ntmps6
  go_wp2_with fail
  go_loop [7, 27] (fun s i => s = .slice none 0 0 ∧ i = .int .i64 0) (fun _ _ => 0)
  case atStart => exact ⟨rfl, rfl⟩
  case round =>
    obtain ⟨rfl, rfl⟩ := hrel
    go_wp2_with fail
    refine (list_zero _ _ _).mono ?_
    rintro e w' ⟨rfl, rfl⟩
    go_wp2_with fail
    refine (total_nil _ _).mono ?_
    rintro e w' ⟨rfl, rfl⟩
    go_wp2_with fail
    refine (list_zero _ _ _).mono ?_
    rintro e w' ⟨rfl, rfl⟩
    go_wp2_with fail
    refine (total_nil _ _).mono ?_
    rintro e w' ⟨rfl, rfl⟩
    go_wp2_with fail
    refine (wakes_any _ HT.out).mono ?_
    rintro e w3 ⟨rfl, hb⟩
    have HB3 := hide hb
    clear hb
    go_upto_region 13 with (fail)
    simp only [HZ.out]
    go_wp2_with fail
    refine (list_zero _ _ _).mono ?_
    rintro e w' ⟨rfl, rfl⟩
    go_wp2_with fail
    refine (total_nil _ _).mono ?_
    rintro e w' ⟨rfl, rfl⟩
    go_wp2_with fail
    refine (list_zero _ _ _).mono ?_
    rintro e w' ⟨rfl, rfl⟩
    go_wp2_with fail
    refine (total_nil _ _).mono ?_
    rintro e w' ⟨rfl, rfl⟩
    go_wp2_with fail
    refine (cadd_any 0 0 (by unfold inR; omega) (by unfold inR; omega) _).mono ?_
    rintro e w' ⟨rfl, rfl⟩
    rw [show sumV (0 + 0) = 0 by decide, show sumE (0 + 0) = 0 by decide]
    go_wp2_with fail
    go_ret
    exact ⟨rfl, HB3.out⟩

set_option maxRecDepth 100000 in
set_option maxHeartbeats 400000 in
theorem order_zero' (a : Addr) (cap : Nat) (w : World) (T C : Nat) (hT : T < 256) (hC : C < 256) (htab : Tab w) :
    Calls Tryd.prog 6 #[.slice (some a) 0 cap, .int .u8 (T : Int), .int .u8 (C : Int)] w fun e w' => e = .returned (.bool true) ∧ RowKit.Below w.heap.size w w' := by
  have HT := hide htab
  have hwC : wrap64 (C : Int) = C := by unfold wrap64; omega
  have hz : (C : Int) % (max (min 0 60) 0 + 1) = 0 := by
    rw [show (max (min 0 60) 0 + 1 : Int) = 1 by decide]
    omega
  have HZ := hide hz
  clear htab hz
  go_enter Tryd.func6, Tryd.ntmps6
  go_wp2_with fail
  go_loop [7, 27] (fun s i => s = .slice none 0 0 ∧ i = .int .i64 0) (fun _ _ => 0)
  case atStart => exact ⟨rfl, rfl⟩
  case round =>
    obtain ⟨rfl, rfl⟩ := hrel
    go_wp2_with fail
    refine (list_zero _ _ _).mono ?_
    rintro e w' ⟨rfl, rfl⟩
    go_wp2_with fail
    refine (total_nil _ _).mono ?_
    rintro e w' ⟨rfl, rfl⟩
    go_wp2_with fail
    refine (list_zero _ _ _).mono ?_
    rintro e w' ⟨rfl, rfl⟩
    go_wp2_with fail
    refine (total_nil _ _).mono ?_
    rintro e w' ⟨rfl, rfl⟩
    go_wp2_with fail
    refine (wakes_any _ HT.out).mono ?_
    rintro e w3 ⟨rfl, hb⟩
    have HB3 := hide hb
    clear hb
    go_upto_region 13 with (fail)
    simp only [HZ.out]
    go_wp2_with fail
    refine (list_zero _ _ _).mono ?_
    rintro e w' ⟨rfl, rfl⟩
    go_wp2_with fail
    refine (total_nil _ _).mono ?_
    rintro e w' ⟨rfl, rfl⟩
    go_wp2_with fail
    refine (list_zero _ _ _).mono ?_
    rintro e w' ⟨rfl, rfl⟩
    go_wp2_with fail
    refine (total_nil _ _).mono ?_
    rintro e w' ⟨rfl, rfl⟩
    go_wp2_with fail
    refine (cadd_any 0 0 (by unfold inR; omega) (by unfold inR; omega) _).mono ?_
    rintro e w' ⟨rfl, rfl⟩
    rw [show sumV (0 + 0) = 0 by decide, show sumE (0 + 0) = 0 by decide]
    go_wp2_with fail
    go_ret
    exact ⟨rfl, HB3.out⟩
end Go.Proofs.YtbfllpidnfcmpaaDoor
