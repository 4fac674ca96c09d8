/-
  Layer 22: On; ContainsFunc; the chart's Right and Get.
-/
import Derived.Test.YtbnbfnlfgmlcgaaPost
import Derived.Lib.OthersKept
import Derived.WalkSmall
--import Derived.Test.Zdbg
namespace Go.Proofs.Ytbnbfnlfgmlcgaa
set_option linter.unusedSimpArgs false
set_option linter.unusedVariables false
open Go.RowKit Go.WideShapes Go.ChangeShapes Go.ChangeAt Go.Deep

set_option maxRecDepth 100000 in
set_option maxHeartbeats 800000 in
theorem indexFunc_with (f : FuncId) (ef : Enters f) (ac : Array Value) (g : LnM → Bool) (I : World → Prop) (w : World) (hI : Keeps I w) (hf : Tells f ac g I)
    (L : List LnM) (hL : L.length ≤ 1000) (a : Option Addr) (cap : Nat) (hin : LnIn w a L) (h : I w) :
    Calls Try.prog 69 #[.slice a L.length cap, .func (.func f) #[] ac] w fun e w' => ∃ r : Int, e = .returned (.int .i64 r) ∧ (0 ≤ r ↔ L.any g = true) ∧ Below w.heap.size w w' := by
  have HF := hide hf
  have HK := hide hI
  have HIN := hide hin
  have H0 := hide h
  unfold Enters at ef
  clear hf hI hin h
  go_enter Try.func69, Try.ntmps69
  go_wp2_with fail
  go_loopw [8] (fun i W => ∃ k : Nat, k ≤ L.length ∧ i = .int .i64 k ∧ (∀ j, j < k → g (L.getD j ln0) = false) ∧ I W ∧ Below w.heap.size w W) (fun i _ => L.length - (intOf i).toNat)
  case atStart => exact ⟨0, by omega, rfl, fun j hj => absurd hj (Nat.not_lt_zero j), H0.out, Below.refl _ _⟩
  case round =>
    obtain ⟨k, hk, rfl, hno, hi, hb⟩ := hrel
    have HB := hide hb
    have HNO := hide hno
    have HIW := hide hi
    clear hb hno hi H0
    by_cases hlt : k < L.length
    · obtain ⟨b, off, rfl, hbl, c0, c1⟩ := (HIN.out.below HB.out) k hlt
      have HME := hide (show L.getD k ln0 ∈ L from ln_mem L k hlt)
      have HX := hide (fun (hg : g (L.getD k ln0) = false) => show ∀ j, j < k + 1 → g (L.getD j ln0) = false from fun j hj => by
        by_cases e : j = k
        · subst e; exact hg
        · exact HNO.out j (by omega))
      generalize L.getD k ln0 = x at *
      obtain ⟨xc, xn⟩ := x
      dsimp only at *
      have HT := hide (HF.out ⟨xc, xn⟩ wr HIW.out)
      go_wp2_with fail
      refine HT.out.mono ?_
      rintro e w2 ⟨rfl, hb⟩
      have I2 := hide (HK.out.low HIW.out HB.out.size hb)
      have B2 := hide (HB.out.trans (hb.mono HB.out.size))
      clear hb HIW HB c0 c1 HT hbl
      generalize hg : g ⟨xc, xn⟩ = gv at *
      cases gv with
      | false =>
        have HXX := hide (HX.out rfl)
        clear HX
        go_wp2_with fail
        go_roundw
        case rel => exact ⟨k + 1, by omega, by go_num, HXX.out, I2.out, B2.out⟩
        case measure => simp [intOf]; omega
      | true =>
        have HAN := hide (show L.any g = true from List.any_eq_true.2 ⟨_, HME.out, hg⟩)
        clear HX hg HME
        go_wp2_with fail
        go_ret
        exact ⟨k, rfl, ⟨fun _ => HAN.out, fun _ => by omega⟩, B2.out⟩
    · obtain rfl : k = L.length := by omega
      go_wp2_with fail
      go_ret
      refine ⟨-1, rfl, ⟨fun h => absurd h (by decide), fun h => ?_⟩, HB.out⟩
      obtain ⟨x, hx, hgx⟩ := List.any_eq_true.1 h
      obtain ⟨i, hi, rfl⟩ := List.getElem_of_mem hx
      have := HNO.out i hi
      simp [List.getD, hi] at this
      rw [this] at hgx
      exact absurd hgx (by decide)
def zeroIn (L : List LnM) : Bool := L.any fun x => decide (x.n = 0)
end Go.Proofs.Ytbnbfnlfgmlcgaa
