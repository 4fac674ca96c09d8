/-
  Layer 21: accounts as values; Right.
-/
import Derived.Test.YtehjhldijhoeeaaKitP
import Derived.Laws.RangeAny
import Derived.Laws.RangeString
import Derived.Lib.OthersKept
import Derived.StillTailTactics
import Derived.WalkSmall

namespace Go.Proofs.Ytehjhldijhoeeaa
set_option linter.unusedSimpArgs false
set_option linter.unusedVariables false
open Go.RowKit Go.WideShapes Go.ChangeShapes Go.ChangeAt Go.Deep
/-- an account as a value -/
structure AcM where
  code : Int
  kind : Int
  name : ByteArray
def ac0 : AcM := ⟨0, 0, ⟨#[]⟩⟩
def acL (x : AcM) : List Value := [.int .i64 x.code, .int .u8 x.kind, .string x.name]
def acV (x : AcM) : Value := .agg #[.int .i64 x.code, .int .u8 x.kind, .string x.name]
structure AcOk (x : AcM) : Prop where
  code : -9223372036854775808 ≤ x.code ∧ x.code ≤ 9223372036854775807
  kind : 0 ≤ x.kind ∧ x.kind ≤ 255
  name : x.name.size ≤ 9223372036854775807
def signB (b : UInt8) : Bool := decide (32 ≤ b.toNat ∧ b.toNat ≤ 126)
def rightB (x : AcM) : Bool := x.name.data.toList.all signB && decide (1 ≤ x.code ∧ x.code ≤ 65535 ∧ 1 ≤ x.kind ∧ x.kind ≤ 5 ∧ 1 ≤ x.name.size ∧ x.name.size ≤ 24)
theorem aright_no {x : AcM} (i : Nat) (h : i < x.name.size) (hb : ¬ (32 ≤ (x.name[i]'h).toNat ∧ (x.name[i]'h).toNat ≤ 126)) : rightB x = false := by
  unfold rightB
  have : x.name.data.toList.all signB = false := by
    rw [List.all_eq_false]
    refine ⟨x.name[i]'h, ?_, by unfold signB; simpa using hb⟩
    rw [← getElem_list x.name i h]
    exact List.getElem_mem _
  rw [this]; rfl
theorem aright_all {x : AcM} (h : ∀ i (hi : i < x.name.size), 32 ≤ (x.name[i]'hi).toNat ∧ (x.name[i]'hi).toNat ≤ 126) : rightB x = decide (1 ≤ x.code ∧ x.code ≤ 65535 ∧ 1 ≤ x.kind ∧ x.kind ≤ 5 ∧ 1 ≤ x.name.size ∧ x.name.size ≤ 24) := by
  unfold rightB
  have : x.name.data.toList.all signB = true := by
    rw [List.all_eq_true]
    intro b hb
    obtain ⟨i, hi, rfl⟩ := List.getElem_of_mem hb
    have hi2 : i < x.name.size := by rw [← size_list]; exact hi
    exact decide_eq_true (h i hi2)
  rw [this, Bool.true_and]
set_option maxRecDepth 100000 in
set_option maxHeartbeats 800000 in
theorem aright_any (x : AcM) (hx : AcOk x) (w : World) :
    Calls Try.prog 9 #[acV x] w fun e w' => e = .returned (.bool (rightB x)) ∧ Below w.heap.size w w' := by
  have HNO := hide (fun i h hb => @aright_no x i h hb)
  have HYES := hide (fun h => @aright_all x h)
  have HX := hide hx
  generalize rightB x = rb at *
  clear hx
  obtain ⟨c, k, s⟩ := x
  unfold acV
  dsimp only at *
  go_enter Try.func9, Try.ntmps9
  go_wp2_with fail
  obtain ⟨ob, hob⟩ : ∃ ob, ob = (Obj.cells #[.int .i64 c, .int .u8 k, .string s] 31) := ⟨_, rfl⟩
  rw [← hob]
  have hal := (Below.refl w.heap.size w).alloc (Nat.le_refl _) ob
  have X1 := hide (show (w.alloc ob).heap[w.heap.size]? = some (.cells #[.int .i64 c, .int .u8 k, .string s] 31 (0, 0)) by rw [heap_new, hob])
  have hs1 : (w.alloc ob).heap.size = w.heap.size + 1 := by simp
  have XI := hide (show ((w.alloc ob).iter s 0).heap[w.heap.size + 1]? = some (.stringIter s 0) by rw [← hs1]; exact heap_new (w.alloc ob) (.stringIter s 0))
  have hal2 := (Below.refl (w.alloc ob).heap.size (w.alloc ob)).alloc (Nat.le_refl _) (.stringIter s 0)
  have X2 := hide (show ((w.alloc ob).iter s 0).heap[w.heap.size]? = some (.cells #[.int .i64 c, .int .u8 k, .string s] 31 (0, 0)) from (hal2.block _ (heap_lt X1.out)).trans X1.out)
  have B2 := hide (show Below w.heap.size w ((w.alloc ob).iter s 0) from hal.trans (hal2.mono (by omega)))
  generalize (w.alloc ob).iter s 0 = w1 at *
  clear hal hal2 hs1 hob ob X1
  generalize hq : w.heap.size = q at *
  have HQ := hide hq
  clear hq
  go_loopw [4] (fun z W => ∃ pos : Nat, pos ≤ s.size ∧ W.heap[q + 1]? = some (.stringIter s pos) ∧ W.heap[q]? = some (.cells #[.int .i64 c, .int .u8 k, .string s] 31 (0, 0)) ∧ Below q w W ∧ ∀ i (hi : i < s.size), i < pos → 32 ≤ (s[i]'hi).toNat ∧ (s[i]'hi).toNat ≤ 126) (fun z W => s.size - W.iterPos (q + 1))
  case atStart => exact ⟨0, by omega, XI.out, X2.out, B2.out, fun i hi h => absurd h (by omega)⟩
  case round =>
    clear XI X2 B2
    obtain ⟨pos, hp, hi, hx, hb, hall⟩ := hrel
    have HP := hide (iterPos_of hi)
    have HI := hide hi
    have HX2 := hide hx
    have HB := hide hb
    have HALL := hide hall
    clear hi hx hb hall
    by_cases h0 : pos < s.size
    · by_cases ha : (s[pos]'h0).toNat < 128
      · have hnx : ∀ ty, (Instr.next (.pointer (some ⟨q + 1, 0, none⟩)) true ty).run Try.prog wr = .ok (.tuple #[.bool true, .int .i64 pos, .int .i32 (s[pos]'h0).toNat]) (wr.iterAt (q + 1) s (pos + 1)) := fun ty => Lib.run_next_ascii_at wr (q + 1) s pos ty HI.out h0 ha
        have I2 := hide (Lib.iterAt_heap wr (q + 1) s pos (pos + 1) HI.out)
        have B2 := hide (Lib.below_iterAt HB.out (k := q + 1) (by omega) s (pos + 1))
        have X2 := hide ((Lib.iterAt_other wr (q + 1) q s (pos + 1) (by omega)).trans HX2.out)
        have HG := hide (show ¬ (32 ≤ (s[pos]'h0).toNat ∧ (s[pos]'h0).toNat ≤ 126) → rb = false from HNO.out pos h0)
        have HG2 := hide (show ∀ m, m = (s[pos]'h0).toNat → 32 ≤ m ∧ m ≤ 126 → ∀ i (hi : i < s.size), i < pos + 1 → 32 ≤ (s[i]'hi).toNat ∧ (s[i]'hi).toNat ≤ 126 from fun m hm h i hi h3 => by
          by_cases h4 : i = pos
          · subst h4; exact hm ▸ h
          · exact HALL.out i hi (by omega))
        generalize hbt : (s[pos]'h0).toNat = b at *
        have HBT := hide hbt
        generalize wr.iterAt (q + 1) s (pos + 1) = w2 at *
        clear HI HX2 HB hbt HALL
        by_cases hg : 32 ≤ b ∧ b ≤ 126
        · have g1 : decide ((b : Int) < 32) = false := decide_eq_false (by omega)
          have g2 : decide ((b : Int) > 126) = false := decide_eq_false (by omega)
          go_wp2_with fail
          go_roundw
          case rel => exact ⟨pos + 1, by omega, I2.out, X2.out, B2.out, HG2.out b rfl hg⟩
          case measure => rw [HP.out, iterPos_of I2.out]; omega
        · have hf := HG.out hg
          subst hf
          by_cases h1 : b < 32
          · have g1 : decide ((b : Int) < 32) = true := decide_eq_true (by omega)
            go_wp2_with fail
            go_ret
            exact ⟨rfl, by rw [HQ.out]; exact B2.out⟩
          · have g1 : decide ((b : Int) < 32) = false := decide_eq_false (by omega)
            have g2 : decide ((b : Int) > 126) = true := decide_eq_true (by omega)
            go_wp2_with fail
            go_ret
            exact ⟨rfl, by rw [HQ.out]; exact B2.out⟩
      · have hnx : ∀ ty, (Instr.next (.pointer (some ⟨q + 1, 0, none⟩)) true ty).run Try.prog wr = .ok (.tuple #[.bool true, .int .i64 pos, .int .i32 (Utf8.decode s pos).1]) (wr.iterAt (q + 1) s (pos + (Utf8.decode s pos).2)) := fun ty => Lib.run_next_any_at wr (q + 1) s pos ty HI.out h0
        have B2 := hide (Lib.below_iterAt HB.out (k := q + 1) (by omega) s (pos + (Utf8.decode s pos).2))
        have hd := (decode_high s pos h0 (by omega)).1
        have hf := HNO.out pos h0 (fun h => ha (by have := h.2; omega))
        subst hf
        generalize wr.iterAt (q + 1) s (pos + (Utf8.decode s pos).2) = w2 at *
        generalize (Utf8.decode s pos).1 = b at *
        clear HI HX2 HB HALL
        have g1 : decide ((b : Int) < 32) = false := decide_eq_false (by omega)
        have g2 : decide ((b : Int) > 126) = true := decide_eq_true (by omega)
        go_wp2_with fail
        go_ret
        exact ⟨rfl, by rw [HQ.out]; exact B2.out⟩
    · have hnx : ∀ ty, (Instr.next (.pointer (some ⟨q + 1, 0, none⟩)) true ty).run Try.prog wr = .ok (.tuple #[.bool false]) wr := fun ty => Lib.run_next_end_at wr (q + 1) s pos ty HI.out h0
      have e0 : wr.cell? ⟨q, 0, none⟩ = some (.int .i64 c) := cell_of_block HX2.out 0
      have e1 : wr.cell? ⟨q, 1, none⟩ = some (.int .u8 k) := cell_of_block HX2.out 1
      have e2 : wr.cell? ⟨q, 2, none⟩ = some (.string s) := cell_of_block HX2.out 2
      have hval := HYES.out (fun i hi => HALL.out i hi (by omega))
      have HV := hide hval
      clear hval HNO HYES HALL HP HI
      obtain ⟨⟨c1, c2⟩, ⟨k1, k2⟩, n1⟩ := HX.out
      dsimp only at c1 c2 k1 k2 n1
      by_cases h1 : 1 ≤ c
      · by_cases h2 : c ≤ 65535
        · by_cases h3 : 1 ≤ k
          · by_cases h4 : k ≤ 5
            · by_cases h5 : 1 ≤ s.size
              · by_cases h6 : s.size ≤ 24
                · have g5 : (1 : Int) ≤ (s.size : Int) := by omega
                  have g6 : (s.size : Int) ≤ 24 := by omega
                  go_wp2_with fail
                  go_ret
                  exact ⟨congrArg (fun b => Ending.returned (Value.bool b)) (HV.out.trans (decide_eq_true ⟨h1, h2, h3, h4, h5, h6⟩)).symm, by rw [HQ.out]; exact HB.out⟩
                · have g5 : (1 : Int) ≤ (s.size : Int) := by omega
                  have g6 : decide ((s.size : Int) ≤ 24) = false := decide_eq_false (by omega)
                  go_wp2_with fail
                  go_ret
                  exact ⟨congrArg (fun b => Ending.returned (Value.bool b)) (HV.out.trans (decide_eq_false (fun h => by omega))).symm, by rw [HQ.out]; exact HB.out⟩
              · have g5 : decide ((1 : Int) ≤ (s.size : Int)) = false := decide_eq_false (by omega)
                go_wp2_with fail
                go_ret
                exact ⟨congrArg (fun b => Ending.returned (Value.bool b)) (HV.out.trans (decide_eq_false (fun h => by omega))).symm, by rw [HQ.out]; exact HB.out⟩
            · have g4 : decide (k ≤ 5) = false := decide_eq_false h4
              go_wp2_with fail
              go_ret
              exact ⟨congrArg (fun b => Ending.returned (Value.bool b)) (HV.out.trans (decide_eq_false (fun h => by omega))).symm, by rw [HQ.out]; exact HB.out⟩
          · have g3 : decide (1 ≤ k) = false := decide_eq_false h3
            go_wp2_with fail
            go_ret
            exact ⟨congrArg (fun b => Ending.returned (Value.bool b)) (HV.out.trans (decide_eq_false (fun h => by omega))).symm, by rw [HQ.out]; exact HB.out⟩
        · have g2 : decide (c ≤ 65535) = false := decide_eq_false h2
          go_wp2_with fail
          go_ret
          exact ⟨congrArg (fun b => Ending.returned (Value.bool b)) (HV.out.trans (decide_eq_false (fun h => by omega))).symm, by rw [HQ.out]; exact HB.out⟩
      · have g1 : decide (1 ≤ c) = false := decide_eq_false h1
        go_wp2_with fail
        go_ret
        exact ⟨congrArg (fun b => Ending.returned (Value.bool b)) (HV.out.trans (decide_eq_false (fun h => by omega))).symm, by rw [HQ.out]; exact HB.out⟩
end Go.Proofs.Ytehjhldijhoeeaa
