/-
  Layer 3: what the document fixes.
-/
import Derived.Test.YtbfllpidnfcmpaaDoorCents6
namespace Go.Proofs.YtbfllpidnfcmpaaDoor
set_option linter.unusedSimpArgs false
set_option linter.unusedVariables false
open Go.RowKit Go.WideShapes Go.ChangeShapes Go.ChangeAt

theorem dec3 (n : Nat) (h1 : ¬ n / 10 < 10) (h2 : n / 10 < 100) : Lib.decDigits n = [UInt8.ofNat (48 + n / 10 / 10), UInt8.ofNat (48 + n / 10 % 10), UInt8.ofNat (48 + n % 10)] := by
  rw [Lib.decDigits, dif_neg (by omega), Lib.decDigits_two h1 h2]
  rfl
theorem text_ex : cText (-1234) = [45, 49, 50, 46, 51, 52] := by
  have e : (-1234 : Int).natAbs = 1234 := rfl
  rw [cText, cRest, e, if_pos (by decide), show 1234 / 100 = 12 from rfl, show 1234 % 100 + 100 = 134 from rfl, Lib.decDigits_two (by decide) (by decide), dec3 134 (by decide) (by decide)]
  rfl
theorem text_5 : cText 5 = [48, 46, 48, 53] := by
  have e : (5 : Int).natAbs = 5 := rfl
  rw [cText, cRest, e, if_neg (by decide), show 5 / 100 = 0 from rfl, show 5 % 100 + 100 = 105 from rfl, Lib.decDigits_one (by decide), dec3 105 (by decide) (by decide)]
  rfl
theorem parse_exB : Lib.parseIntB 64 [45, 49, 50, 51, 52] = .ok (-1234) := by decide +kernel
theorem parse_ex (w : World) (htab : Tab w) :
    Calls Tryd.prog 19 #[.string ⟨#[45, 49, 50, 46, 51, 52]⟩] w fun e w' => e = .returned (.tuple #[.int .i64 (-1234), .int .i64 0]) ∧ RowKit.Below w.heap.size w w' := by
  have h := parse_ok (-1234) (by unfold inR; omega) 3 (by decide) (by decide) (by rw [text_ex]; rfl) (by rw [text_ex]; exact parse_exB) w htab
  rw [text_ex] at h
  exact h
theorem total_ex (w : World) (b : Nat) (h0 : w.cell? ⟨b, 0, none⟩ = some (.int .i64 9223372036854775807)) (h1 : w.cell? ⟨b, 1, none⟩ = some (.int .i64 1)) (h2 : w.cell? ⟨b, 2, none⟩ = some (.int .i64 (-1))) :
    Calls Tryd.prog 15 #[.slice (some ⟨b, 0, none⟩) 3 3] w fun e w' => e = .returned (.tuple #[.int .i64 9223372036854775807, .int .i64 0]) ∧ w = w' := by
  have h := total_any [9223372036854775807, 1, -1] (by intro x hx; simp at hx; unfold inR; omega) (by decide) b 0 3 w (fun k hk => by
    match k, hk with
    | 0, _ => exact h0
    | 1, _ => exact h1
    | 2, _ => exact h2)
  have e : ([9223372036854775807, 1, -1] : List Int).sum = 9223372036854775807 := by decide
  obtain ⟨v1, v2⟩ := sum_in (show inR 9223372036854775807 by unfold inR; omega)
  rw [e, v1, v2] at h
  exact h
theorem add_ex (w : World) :
    Calls Tryd.prog 8 #[.int .i64 9223372036854775807, .int .i64 1] w fun e w' => e = .returned (.tuple #[.int .i64 0, .int .i64 6]) ∧ w = w' := by
  have h := cadd_any 9223372036854775807 1 (by unfold inR; omega) (by unfold inR; omega) w
  obtain ⟨v1, v2⟩ := sum_out (show ¬ inR (9223372036854775807 + 1) by unfold inR; omega)
  rw [v1, v2] at h
  exact h
theorem text_5c (w : World) (htab : Tab w) :
    Calls Tryd.prog 18 #[.int .i64 5] w fun e w' => e = .returned (.string ⟨#[48, 46, 48, 53]⟩) ∧ RowKit.Below w.heap.size w w' := by
  have h := ctext_any 5 (by unfold inR; omega) w htab
  rw [text_5] at h
  exact h

set_option maxRecDepth 100000 in
theorem wakes_any (w : World) (htab : Tab w) :
    Calls Tryd.prog 14 #[] w fun e w' => e = .returned (.bool true) ∧ RowKit.Below w.heap.size w w' := by
  have HT := hide htab
  clear htab
  go_enter Tryd.func14, Tryd.ntmps14
  go_wp2_with fail
  have HA := hide ((RowKit.Below.refl w.heap.size w).alloc (Nat.le_refl _) (Obj.cells #[Value.int IntKind.i64 9223372036854775807, Value.int IntKind.i64 1, Value.int IntKind.i64 (-1)] 22))
  have HT1 := hide (tab_alloc HT.out (Obj.cells #[Value.int IntKind.i64 9223372036854775807, Value.int IntKind.i64 1, Value.int IntKind.i64 (-1)] 22))
  refine (total_ex _ w.heap.size (World.cell?_alloc_new _ _ _ _) (World.cell?_alloc_new _ _ _ _) (World.cell?_alloc_new _ _ _ _)).mono ?_
  rintro e w' ⟨rfl, rfl⟩
  generalize w.alloc (Obj.cells #[Value.int IntKind.i64 9223372036854775807, Value.int IntKind.i64 1, Value.int IntKind.i64 (-1)] 22) = w1 at *
  go_wp2_with fail
  refine (parse_ex _ HT1.out).mono ?_
  rintro e w2 ⟨rfl, hb⟩
  have HT2 := hide (tab_below HT1.out hb)
  have HB2 := hide (HA.out.trans (hb.mono HA.out.size))
  clear hb
  go_wp2_with fail
  refine (add_ex _).mono ?_
  rintro e w3 ⟨rfl, rfl⟩
  go_wp2_with fail
  refine (text_5c _ HT2.out).mono ?_
  rintro e w4 ⟨rfl, hb⟩
  have HB4 := hide (HB2.out.trans (hb.mono HB2.out.size))
  clear hb
  go_wp2_with fail
  go_ret
  exact ⟨rfl, HB4.out⟩
end Go.Proofs.YtbfllpidnfcmpaaDoor
