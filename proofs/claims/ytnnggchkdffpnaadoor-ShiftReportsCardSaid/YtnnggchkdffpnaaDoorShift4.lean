/-
  Layer 26: Till.
-/
import Derived.Test.YtnnggchkdffpnaaDoorShift2
import Derived.Test.YtnnggchkdffpnaaDoorRCents
--import Derived.Test.Zdbg
namespace Go.Proofs.YtnnggchkdffpnaaDoor
set_option linter.unusedSimpArgs false
set_option linter.unusedVariables false
open Go.RowKit Go.WideShapes Go.ChangeShapes Go.ChangeAt Go.Deep

def tillL (s v r i o : Int) : Nat → List Int
  | 0 => [s, i]
  | 1 => [s, i, -v - 1, 1]
  | 2 => [s, i, -v - 1, 1, -r - 1, 1]
  | _ + 3 => [s, i, -v - 1, 1, -r - 1, 1, -o - 1, 1]
def nthT (v r o : Int) : Nat → Int
  | 0 => v
  | 1 => r
  | _ + 2 => o
theorem tillL_next (s v r i o : Int) (k : Nat) (h : k < 3) : tillL s v r i o (k + 1) = tillL s v r i o k ++ [-(nthT v r o k) - 1, 1] := by
  have : k = 0 ∨ k = 1 ∨ k = 2 := by omega
  rcases this with rfl | rfl | rfl <;> rfl
theorem tillL_len (s v r i o : Int) (k : Nat) (h : k ≤ 3) : (tillL s v r i o k).length = 2 + 2 * k := by
  have : k = 0 ∨ k = 1 ∨ k = 2 ∨ k = 3 := by omega
  rcases this with rfl | rfl | rfl | rfl <;> rfl
theorem tillL_sum (s v r i o : Int) : (tillL s v r i o 3).sum = s + i - v - r - o := by simp [tillL]; omega
theorem tillL_in (s v r i o : Int) (hs : inR s) (hv : inR v) (hr : inR r) (hi : inR i) (ho : inR o) : ∀ x ∈ tillL s v r i o 3, inR x := by
  intro x hx
  unfold inR at *
  simp [tillL] at hx
  omega
theorem xor_not (a : Int) (h : inR a) : bits .xor .i64 (-1) a = -a - 1 := by
  show IntKind.i64.wrap ((BitVec.ofInt 64 (-1) ^^^ BitVec.ofInt 64 a).toNat : Int) = _
  have h1 : BitVec.ofInt 64 (-1) = BitVec.allOnes 64 := by decide
  rw [h1, BitVec.allOnes_xor, BitVec.toNat_not, BitVec.toNat_ofInt, IntKind.wrap_i64]
  unfold inR at h
  have h2 : ((2 ^ 64 : Nat) : Int) = 18446744073709551616 := by decide
  rw [h2]
  omega
theorem two_at {w : World} {b : Nat} {a0 a1 : Value} {t : TypeId} (h : w.heap[b]? = some (.cells #[a0, a1] t (0, 0))) : ∀ (j : Nat) (u : Value), [a0, a1][j]? = some u → w.cell? ((⟨b, 0, none⟩ : Addr).add j) = some u := fun j u hu => by
  rw [Go.WideShapes.add_plain, cell_of_block h, ← hu]
  simp
theorem idx3_0 (a b c : Int) (W : World) : (Instr.index 76 (.agg #[.int .i64 a, .int .i64 b, .int .i64 c]) (.int .i64 0)).run Tryd.prog W = .ok (.int .i64 a) W := by kernel_rfl
theorem idx3_1 (a b c : Int) (W : World) : (Instr.index 76 (.agg #[.int .i64 a, .int .i64 b, .int .i64 c]) (.int .i64 1)).run Tryd.prog W = .ok (.int .i64 b) W := by kernel_rfl
theorem idx3_2 (a b c : Int) (W : World) : (Instr.index 76 (.agg #[.int .i64 a, .int .i64 b, .int .i64 c]) (.int .i64 2)).run Tryd.prog W = .ok (.int .i64 c) W := by kernel_rfl
set_option maxRecDepth 100000 in
set_option maxHeartbeats 1000000 in
theorem till_any (c s v r i o : Int) (hs : inR s) (hv : inR v) (hr : inR r) (hi : inR i) (ho : inR o) (w : World) :
    Calls Tryd.prog 22 #[.agg (totA c s v r i o)] w fun e w' => e = .returned (.tuple #[.int .i64 (sumV (s + i - v - r - o)), .int .i64 (sumE (s + i - v - r - o))]) ∧ Below w.heap.size w w' := by
  obtain ⟨i0, hii, hz0, hz1, hz2⟩ := info_parts (show (Tryd.prog.info? 32).map (fun i => (i.zero, i.size, i.bytes)) = some (some (.int .i64 0), 1, 8) by kernel_rfl)
  have HI := hide hii
  have HZ0 := hide hz0
  have HZ1 := hide hz1
  have HZ2 := hide hz2
  clear hii hz0 hz1 hz2
  have HTO := hide (fun (b cap : Nat) W hc => total_any (tillL s v r i o 3) (tillL_in s v r i o hs hv hr hi ho) (by rw [tillL_len _ _ _ _ _ 3 (by omega)]; omega) b 0 cap W hc)
  rw [tillL_sum, tillL_len _ _ _ _ _ 3 (by omega)] at HTO
  have HRv := hide hv
  have HRr := hide hr
  have HRo := hide ho
  clear hs hv hr hi ho
  unfold totA
  go_enter Tryd.func22, Tryd.ntmps22
  go_wp2_with fail
  have hal1 := (Below.refl w.heap.size w).alloc (Nat.le_refl _) (.cells #[.int .i64 c, .int .i64 s, .int .i64 v, .int .i64 r, .int .i64 i, .int .i64 o] 34)
  have hal := hal1.alloc (by simp) (.cells #[.int .i64 s, .int .i64 i] 32)
  have hnew := heap_new (w.alloc (.cells #[.int .i64 c, .int .i64 s, .int .i64 v, .int .i64 r, .int .i64 i, .int .i64 o] 34)) (.cells #[.int .i64 s, .int .i64 i] 32)
  rw [show (w.alloc (.cells #[.int .i64 c, .int .i64 s, .int .i64 v, .int .i64 r, .int .i64 i, .int .i64 o] 34)).heap.size = w.heap.size + 1 by simp] at hnew
  generalize (w.alloc (.cells #[.int .i64 c, .int .i64 s, .int .i64 v, .int .i64 r, .int .i64 i, .int .i64 o] 34)).alloc (.cells #[.int .i64 s, .int .i64 i] 32) = w1 at *
  have OW0 := hide (show w1.ownsRow w.heap.size 32 1 (.slice (some ⟨w.heap.size + 1, 0, none⟩) 2 2) 2 ((tillL s v r i o 0).map (Value.int .i64)) from ⟨rfl, .inr ⟨w.heap.size + 1, 2, _, rfl, by omega, hnew, Nat.le_refl _, by unfold maxLen; omega, rfl, rfl⟩⟩)
  have B0 := hide hal
  clear hal hal1 hnew
  go_loopw [4, 19] (fun l z W => ∃ (k g cp : Nat), k ≤ 3 ∧ z = .int .i64 k ∧ l = .slice (some ⟨g, 0, none⟩) (2 + 2 * k) cp ∧ W.ownsRow w.heap.size 32 1 (.slice (some ⟨g, 0, none⟩) (2 + 2 * k) cp) (2 + 2 * k) ((tillL s v r i o k).map (Value.int .i64)) ∧ Below w.heap.size w W) (fun _ z _ => 3 - (intOf z).toNat)
  case atStart => exact ⟨0, w.heap.size + 1, 2, by omega, rfl, rfl, OW0.out, B0.out⟩
  case round =>
    clear OW0 B0
    obtain ⟨k, g, cp, hk, rfl, rfl, ho, hb⟩ := hrel
    have OW := hide ho
    have BL := hide hb
    clear ho hb
    by_cases hlt : k < 3
    · have HNX := hide (tillL_next s v r i o k hlt)
      have h3 : k = 0 ∨ k = 1 ∨ k = 2 := by omega
      rcases h3 with rfl | rfl | rfl
      · have hix := idx3_0 v r o wr
        go_upto_region 5 with (fail)
        clear hix
        have OWA := hide (fun ob => OW.out.alloc ob)
        go_wp2_with (at_builtin; (refine wpList_append_own2 _ rfl (.tmp 22) (.tmp 25) 75 rfl w.heap.size 32 i0 (.int .i64 0) 1 8 Tryd.underlying75 HI.out HZ0.out HZ1.out HZ2.out rfl (by decide) (.slice (some ⟨g, 0, none⟩) (2 + 2 * 0) cp) (2 + 2 * 0) ((tillL s v r i o 0).map (Value.int .i64)) rfl (OWA.out _) ⟨wr.heap.size, 0, none⟩ 2 2 (by decide) [.int .i64 (bits .xor .i64 (-1) v), .int .i64 1] rfl rfl (two_at (heap_new wr _)) (by intro u hu; simp at hu; rcases hu with rfl | rfl <;> rfl) (by unfold maxLen; omega) (by decide) (by have := BL.out.size; simp; omega) ?_; intro g2 cp2 w2 ho2 hg2 hge2; have HO2 := hide ho2; have HG2 := hide hg2; clear ho2 hg2 hge2))
        have OW2 := hide (show w2.ownsRow w.heap.size 32 1 (.slice (some ⟨g2, 0, none⟩) (2 + 2 * 1) cp2) (2 + 2 * 1) ((tillL s v r i o 1).map (Value.int .i64)) by
          have e := HO2.out
          rw [xor_not v HRv.out] at e
          exact e)
        have BL2 := hide (Below.grown (BL.out.alloc BL.out.size _) HG2.out (by have := BL.out.size; simp; omega) (fun j hj => (OW.out.lt j hj).1))
        clear OW BL OWA HO2 HG2
        go_roundw
        case rel => exact ⟨1, g2, cp2, by omega, rfl, rfl, OW2.out, BL2.out⟩
        case measure => simp [intOf]
      · have hix := idx3_1 v r o wr
        go_upto_region 5 with (fail)
        clear hix
        have OWA := hide (fun ob => OW.out.alloc ob)
        go_wp2_with (at_builtin; (refine wpList_append_own2 _ rfl (.tmp 22) (.tmp 25) 75 rfl w.heap.size 32 i0 (.int .i64 0) 1 8 Tryd.underlying75 HI.out HZ0.out HZ1.out HZ2.out rfl (by decide) (.slice (some ⟨g, 0, none⟩) (2 + 2 * 1) cp) (2 + 2 * 1) ((tillL s v r i o 1).map (Value.int .i64)) rfl (OWA.out _) ⟨wr.heap.size, 0, none⟩ 2 2 (by decide) [.int .i64 (bits .xor .i64 (-1) r), .int .i64 1] rfl rfl (two_at (heap_new wr _)) (by intro u hu; simp at hu; rcases hu with rfl | rfl <;> rfl) (by unfold maxLen; omega) (by decide) (by have := BL.out.size; simp; omega) ?_; intro g2 cp2 w2 ho2 hg2 hge2; have HO2 := hide ho2; have HG2 := hide hg2; clear ho2 hg2 hge2))
        have OW2 := hide (show w2.ownsRow w.heap.size 32 1 (.slice (some ⟨g2, 0, none⟩) (2 + 2 * 2) cp2) (2 + 2 * 2) ((tillL s v r i o 2).map (Value.int .i64)) by
          have e := HO2.out
          rw [xor_not r HRr.out] at e
          exact e)
        have BL2 := hide (Below.grown (BL.out.alloc BL.out.size _) HG2.out (by have := BL.out.size; simp; omega) (fun j hj => (OW.out.lt j hj).1))
        clear OW BL OWA HO2 HG2
        go_roundw
        case rel => exact ⟨2, g2, cp2, by omega, rfl, rfl, OW2.out, BL2.out⟩
        case measure => simp [intOf]
      · have hix := idx3_2 v r o wr
        go_upto_region 5 with (fail)
        clear hix
        have OWA := hide (fun ob => OW.out.alloc ob)
        go_wp2_with (at_builtin; (refine wpList_append_own2 _ rfl (.tmp 22) (.tmp 25) 75 rfl w.heap.size 32 i0 (.int .i64 0) 1 8 Tryd.underlying75 HI.out HZ0.out HZ1.out HZ2.out rfl (by decide) (.slice (some ⟨g, 0, none⟩) (2 + 2 * 2) cp) (2 + 2 * 2) ((tillL s v r i o 2).map (Value.int .i64)) rfl (OWA.out _) ⟨wr.heap.size, 0, none⟩ 2 2 (by decide) [.int .i64 (bits .xor .i64 (-1) o), .int .i64 1] rfl rfl (two_at (heap_new wr _)) (by intro u hu; simp at hu; rcases hu with rfl | rfl <;> rfl) (by unfold maxLen; omega) (by decide) (by have := BL.out.size; simp; omega) ?_; intro g2 cp2 w2 ho2 hg2 hge2; have HO2 := hide ho2; have HG2 := hide hg2; clear ho2 hg2 hge2))
        have OW2 := hide (show w2.ownsRow w.heap.size 32 1 (.slice (some ⟨g2, 0, none⟩) (2 + 2 * 3) cp2) (2 + 2 * 3) ((tillL s v r i o 3).map (Value.int .i64)) by
          have e := HO2.out
          rw [xor_not o HRo.out] at e
          exact e)
        have BL2 := hide (Below.grown (BL.out.alloc BL.out.size _) HG2.out (by have := BL.out.size; simp; omega) (fun j hj => (OW.out.lt j hj).1))
        clear OW BL OWA HO2 HG2
        go_roundw
        case rel => exact ⟨3, g2, cp2, by omega, rfl, rfl, OW2.out, BL2.out⟩
        case measure => simp [intOf]
    · obtain rfl : k = 3 := by omega
      rw [show ((3 : Nat) : Int) = 3 from rfl]
      have hat : ∀ j, j < 8 → wr.cell? ⟨g, 0 + j, none⟩ = some (.int .i64 ((tillL s v r i o 3).getD j 0)) := fun j hj => by
        rcases OW.out.2 with ⟨h1, -⟩ | ⟨g', cap', cur, hv, -, hh, h5, h6, hsz, htk⟩
        · cases h1
        · simp only [Value.slice.injEq, Option.some.injEq, Addr.mk.injEq] at hv
          obtain ⟨⟨rfl, -⟩, -, rfl⟩ := hv
          rw [Nat.zero_add, cell_of_block hh, ← Array.getElem?_toList]
          have e := congrArg (fun l : List Value => l[j]?) htk
          simp only [Nat.mul_one] at e
          rw [List.getElem?_take_of_lt (by omega)] at e
          rw [e, List.getElem?_map, List.getElem?_eq_getElem (by rw [tillL_len _ _ _ _ _ 3 (by omega)]; omega)]
          simp [List.getD, tillL_len _ _ _ _ _ 3 (Nat.le_refl 3), hj]
      go_wp2_with fail
      refine (HTO.out g cp wr hat).mono ?_
      rintro e w2 ⟨rfl, rfl⟩
      go_wp2_with fail
      go_ret2
      exact ⟨rfl, BL.out⟩
end Go.Proofs.YtnnggchkdffpnaaDoor
