/-
  Layer 21: Copy; the document's Right and Find.
-/
import Derived.Test.YtehjhldijhoeeaaChart5

namespace Go.Proofs.Ytehjhldijhoeeaa
set_option linter.unusedSimpArgs false
set_option linter.unusedVariables false
open Go.RowKit Go.WideShapes Go.ChangeShapes Go.ChangeAt Go.Deep
theorem ret_boolb {a b : Bool} (h : a = b) : Ending.returned (.bool a) = .returned (.bool b) := by rw [h]
theorem AcsIn.keep {w w' : World} {a : Option Addr} {M : List AcM} (h : AcsIn w a M) (hb : Below w.heap.size w w') : AcsIn w' a M := fun i hi => by
  obtain ⟨b, h1, h2, c0, c1, c2⟩ := h i hi
  exact ⟨b, h1, Nat.lt_of_lt_of_le h2 hb.size, cell_keep c0 h2 hb, cell_keep c1 h2 hb, cell_keep c2 h2 hb⟩
set_option maxRecDepth 100000 in
theorem chcopy_any (p bm : Nat) (M : List AcM) (w : World) (h : ChartIs w p bm M) :
    Calls Try.prog 11 #[.pointer (some ⟨p, 0, none⟩)] w fun e w' => ∃ p' bm', e = .returned (.pointer (some ⟨p', 0, none⟩)) ∧ ChartIs w' p' bm' M ∧ w.heap.size ≤ bm' ∧ w.heap.size ≤ p' ∧ Below w.heap.size w w' := by
  have HC := hide h
  obtain ⟨f, ⟨D, h1, h2⟩, hF⟩ := h.map
  have HCL := hide (AnyW.maps_Clone_owns Try.cloneA 3 asIs bm M.length D w h1)
  have H2 := hide h2
  have HF := hide hF
  have e0 := cell_of_block h.head 0
  clear h h1 h2 hF
  go_enter Try.func11, Try.ntmps11
  go_wp2_with fail
  refine HCL.out.mono ?_
  rintro e w1 ⟨rfl, ho, -, hb⟩
  have HO := hide ho
  have HB := hide hb
  clear ho hb e0 HCL
  go_wp2_with fail
  go_ret
  have hb2 := (Below.refl w1.heap.size w1).alloc (Nat.le_refl _) (.cells #[.map (some w.heap.size)] 69)
  have M1 : MapIs w1 Try.prog 3 w.heap.size M.length M.length f := ⟨D, HO.out, H2.out⟩
  have hs := HB.out.size
  exact ⟨w1.heap.size, w.heap.size, rfl, ⟨heap_new _ _, ⟨f, M1.below hb2, HF.out⟩, HC.out.rises, HC.out.ok, HC.out.few⟩, Nat.le_refl _, hs, HB.out.trans (hb2.mono hs)⟩
/-- the law's account as the program's -/
theorem of_acc (x : AcM) (w : World) : Calls Try.prog 8 #[acV x] w fun e w' => e = .returned (acV x) ∧ Below w.heap.size w w' := by
  obtain ⟨c, k, s⟩ := x
  unfold acV
  dsimp only
  have hal := (Below.refl w.heap.size w).alloc (Nat.le_refl _) (.cells #[.int .i64 c, .int .u8 k, .string s] 28)
  have X1 := hide (heap_new w (.cells #[.int .i64 c, .int .u8 k, .string s] 28))
  have B1 := hide hal
  clear hal
  go_enter Try.func8, Try.ntmps8
  go_upto_region 1 with (fail)
  have hs1 : (w.alloc (.cells #[.int .i64 c, .int .u8 k, .string s] 28)).heap.size = w.heap.size + 1 := by simp
  have hal := (Below.refl _ (w.alloc (.cells #[.int .i64 c, .int .u8 k, .string s] 28))).alloc (Nat.le_refl _) (.cells #[.int .i64 0, .int .u8 0, .string ⟨#[]⟩] 31)
  have X2 := hide ((hal.block _ (heap_lt X1.out)).trans X1.out)
  have Y2 := hide (heap_new (w.alloc (.cells #[.int .i64 c, .int .u8 k, .string s] 28)) (.cells #[.int .i64 0, .int .u8 0, .string ⟨#[]⟩] 31))
  rw [hs1] at Y2
  have B2 := hide (B1.out.trans (hal.mono B1.out.size))
  clear hal hs1 X1 B1
  generalize (w.alloc (.cells #[.int .i64 c, .int .u8 k, .string s] 28)).alloc (.cells #[.int .i64 0, .int .u8 0, .string ⟨#[]⟩] 31) = w2 at *
  generalize hq : w.heap.size = q at *
  have HQ := hide hq
  clear hq
  have e0 : w2.cell? ⟨q, 0, none⟩ = some (.int .i64 c) := cell_of_block X2.out 0
  have e1 : w2.cell? ⟨q, 1, none⟩ = some (.int .u8 k) := cell_of_block X2.out 1
  have e2 : w2.cell? ⟨q, 2, none⟩ = some (.string s) := cell_of_block X2.out 2
  have f0 := cell_of_block Y2.out 0
  have f1 := cell_of_block Y2.out 1
  have f2 := cell_of_block Y2.out 2
  have g0 := frozen_of_block Y2.out 0
  have g1 := frozen_of_block Y2.out 1
  have g2 := frozen_of_block Y2.out 2
  go_wp2_with fail
  have Z0 := block_setCell (block_setCell (block_setCell Y2.out 0 (.int .i64 c)) 1 (.int .u8 k)) 2 (.string s)
  have z0 := cell_of_block Z0 0
  have z1 := cell_of_block Z0 1
  have z2 := cell_of_block Z0 2
  refine bodyPost_ret (v := .agg #[.int .i64 c, .int .u8 k, .string s]) ?_ rfl ⟨rfl, ?_⟩
  · simp [results, Try.results8, go_sem, z0, z1, z2]
  · rw [HQ.out]
    exact ((B2.out.setCell (p := ⟨q + 1, 0, none⟩) (by show q ≤ q + 1; omega) _).setCell (p := ⟨q + 1, 1, none⟩) (by show q ≤ q + 1; omega) _).setCell (p := ⟨q + 1, 2, none⟩) (by show q ≤ q + 1; omega) _
/-- where a code is -/
def findA (M : List AcM) (k : Int) : Int := match M.findIdx? (fun x => x.code == k) with | some i => i | none => -1
theorem findA_yes {M : List AcM} {k : Int} {i : Nat} (hi : i < M.length) (he : (M.getD i ac0).code = k) (hn : ∀ j, j < i → (M.getD j ac0).code ≠ k) : findA M k = i := by
  unfold findA
  have : M.findIdx? (fun x => x.code == k) = some i := by
    rw [List.findIdx?_eq_some_iff_getElem]
    refine ⟨hi, by simpa [List.getD, hi] using he, fun j hj => ?_⟩
    have := hn j hj
    simp only [List.getD, List.getElem?_eq_getElem (show j < M.length by omega), Option.getD_some] at this
    simpa using this
  rw [this]
theorem findA_no {M : List AcM} {k : Int} (hn : ∀ j, j < M.length → (M.getD j ac0).code ≠ k) : findA M k = -1 := by
  unfold findA
  have : M.findIdx? (fun x => x.code == k) = none := by
    rw [List.findIdx?_eq_none_iff]
    intro x hx
    obtain ⟨j, hj, rfl⟩ := List.getElem_of_mem hx
    have := hn j hj
    simp only [List.getD, List.getElem?_eq_getElem hj, Option.getD_some] at this
    simpa using this
  rw [this]
theorem findA_is (M : List AcM) (k : Int) : (0 ≤ findA M k ↔ (getA M k).isSome = true) ∧ -1 ≤ findA M k := by
  have hs : (getA M k).isSome = (M.findIdx? (fun x => x.code == k)).isSome := by
    unfold getA
    rw [Bool.eq_iff_iff, List.find?_isSome, List.findIdx?_isSome, List.any_eq_true]
  rw [hs]
  unfold findA
  cases M.findIdx? (fun x => x.code == k) with
  | none => simp
  | some i => simp <;> omega
set_option maxRecDepth 100000 in
set_option maxHeartbeats 400000 in
theorem rfind_any (M : List AcM) (hM : M.length ≤ 100) (a : Option Addr) (cap : Nat) (k : Int) (w : World) (hin : AcsIn w a M) :
    Calls Try.prog 19 #[.slice a M.length cap, .int .i64 k] w fun e w' => e = .returned (.int .i64 (findA M k)) ∧ w = w' := by
  have HIN := hide hin
  have HY := hide (fun i h1 h2 h3 => @findA_yes M k i h1 h2 h3)
  have HN := hide (fun h => @findA_no M k h)
  generalize findA M k = fa at *
  clear hin
  go_enter Try.func19, Try.ntmps19
  go_wp2_with fail
  go_loopw [5] (fun i W => ∃ m : Nat, m ≤ M.length ∧ i = .int .i64 m ∧ w = W ∧ ∀ j, j < m → (M.getD j ac0).code ≠ k) (fun i _ => M.length - (Go.RowKit.intOf i).toNat)
  case atStart => exact ⟨0, by omega, rfl, rfl, fun j hj => absurd hj (Nat.not_lt_zero j)⟩
  case round =>
    obtain ⟨m, hm, rfl, rfl, hno⟩ := hrel
    have HNO := hide hno
    clear hno
    by_cases hlt : m < M.length
    · obtain ⟨b, rfl, hbl, c0, -, -⟩ := HIN.out m hlt
      have HLT := hide hlt
      obtain ⟨z, hz⟩ : ∃ z, (M.getD m ac0).code = z := ⟨_, rfl⟩
      rw [hz] at c0
      have HZ := hide hz
      clear hz hbl
      by_cases he : z = k
      · subst he
        have hv := HY.out m hlt HZ.out HNO.out
        have HV := hide hv
        clear hv
        go_wp2_with fail
        go_ret
        exact ⟨ret_int HV.out.symm, rfl⟩
      · have heb : (z == k) = false := beq_eq_false_iff_ne.mpr he
        have HE := hide he
        clear he
        go_wp2_with fail
        go_roundw
        case rel => exact ⟨m + 1, HLT.out, by go_num, by trivial, fun j hj => by
          by_cases e : j = m
          · subst e; exact fun h => HE.out (HZ.out.symm.trans h)
          · exact HNO.out j (by omega)⟩
        case measure => have := HLT.out; simp [Go.RowKit.intOf]; omega
    · obtain rfl : M.length = m := by omega
      have HV := hide (HN.out HNO.out)
      go_wp2_with fail
      go_ret
      exact ⟨ret_int HV.out.symm, rfl⟩
end Go.Proofs.Ytehjhldijhoeeaa
