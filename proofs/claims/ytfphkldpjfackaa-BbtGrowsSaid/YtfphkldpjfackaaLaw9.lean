/-
  Layer 9: what the laws ask first.
-/
import Derived.Test.YtfphkldpjfackaaBbt4
namespace Go.Proofs.Ytfphkldpjfackaa
set_option linter.unusedSimpArgs false
set_option linter.unusedVariables false
open Go.RowKit Go.WideShapes Go.ChangeShapes Go.ChangeAt

theorem wpList_wanted {P : Program} {w : World} {ops : Array Oper} {rest : List Oper} {o : Oper} {a : Act} {Q : Exit → Act → World → Prop} (hw : Region.wanted o (yielded ops a.tmps) = true)
    (h : ∀ K : Act → World → Prop, (∀ a w, wpList P ops Q rest a w → K a w) → o.wp P a w K Q) : wpList P ops Q (o :: rest) a w :=
  wpList_step fun K hK => by simp only [hw, if_true]; exact h K hK
/-- 'len(m)', at an operation that a guard lets -/
theorem load_T_g {ops : Array Oper} {rest : List Oper} {o : Oper} {a : Act} {w : World} {Q : Exit → Act → World → Prop} (hgd : Region.wanted o (yielded ops a.tmps) = true) (x : Operand) (ho : o.op = .load 26 x)
    (g : Nat) (hx : a.eval x = .pointer (some ⟨g, 0, none⟩)) (cs : Array Value) (hg : w.heap[g]? = some (.cells cs 26 (0, 0))) (hi : (Try.prog.info? 26).map (·.size) = some cs.size)
    (h : wpList Try.prog ops Q rest (a.put o.dst (.agg cs)) w) : wpList Try.prog ops Q (o :: rest) a w :=
  wpList_wanted hgd fun _ hK => wp_load_row 26 x ho g hx 26 cs (0, 0) _ hg Try.underlying26 rfl hi (hK _ _ h)
theorem row_new (W : World) (z c : Array Value) : ((W.alloc (.cells z 26)).setRow W.heap.size c).heap[W.heap.size]? = some (.cells c 26 (0, 0)) := setRow_heap _ _ _ _ _ _ (heap_new W _)
theorem row_old (W : World) (z c : Array Value) (k : Nat) (h : k < W.heap.size) : ((W.alloc (.cells z 26)).setRow W.heap.size c).heap[k]? = W.heap[k]? := (setRow_other _ _ _ _ (by omega)).trans (heap_old W _ _ h)
theorem row_below {a W : World} (h : Below a.heap.size a W) (z c : Array Value) : Below a.heap.size a ((W.alloc (.cells z 26)).setRow W.heap.size c) := setRow_below (h.alloc h.size _) h.size c
set_option maxRecDepth 100000 in
set_option maxHeartbeats 400000 in
theorem wakes9 (w : World) : Calls Try.prog 8 #[] w fun e w' => e = .returned (.bool true) ∧ Below w.heap.size w w' := by
  have hl1 : (withB zeros32 0).length = 32 := rfl
  have hl2 : (withB (withB zeros32 0) 9).length = 32 := rfl
  have HNEW := hide (fun W => new_any 10 W)
  rw [if_pos (by omega), if_pos (by omega)] at HNEW
  have HW0 := hide (fun W => with_ok 0 10 (by omega) (by omega) zeros32 zeros_len 0 (by omega) (by omega) W)
  have HW9 := hide (fun W => with_ok 1 10 (by omega) (by omega) (withB zeros32 0) hl1 9 (by omega) (by omega) W)
  have HTX := hide (fun W => text_ok 2 (by omega) (by omega) 10 (by omega) (by omega) (withB (withB zeros32 0) 9) hl2 22 32 (by decide) (by omega) W)
  have HH9 := hide (fun W => has_any 2 10 (withB (withB zeros32 0) 9) hl2 (by omega) 9 W)
  have HH0 := hide (fun W => has_any 0 10 zeros32 zeros_len (by omega) 0 W)
  rw [show hasZ 10 (withB (withB zeros32 0) 9) 9 = true by decide] at HH9
  rw [show hasZ 10 zeros32 0 = false by decide] at HH0
  rw [show (0 : Int) + 1 = 1 from rfl] at HW0
  rw [show (1 : Int) + 1 = 2 from rfl] at HW9
  rw [show ((0 : Nat) : Int) = 0 from rfl] at HW0
  rw [show ((9 : Nat) : Int) = 9 from rfl] at HW9
  rw [show ((10 : Nat) : Int) = 10 from rfl] at HTX
  have hts : (bs (textL 2 10 (withB (withB zeros32 0) 9) 22)).size = 32 := by decide
  have htc : (bs (textL 2 10 (withB (withB zeros32 0) 9) 22)).extract 0 10 = ByteArray.mk #[0, 0, 0, 0, 0, 0, 0, 2, 128, 64] := by rw [bs_to]; decide
  have HI1 := hide (bbt_info 0 10 zeros32 zeros_len)
  have HI2 := hide (bbt_info 1 10 (withB zeros32 0) hl1)
  have HI3 := hide (bbt_info 2 10 (withB (withB zeros32 0) 9) hl2)
  have HS1 := hide (bbt_sizes 0 0 0 10 zeros32 zeros32 zeros_len zeros_len)
  have HS2 := hide (bbt_sizes 0 0 1 10 zeros32 (withB zeros32 0) zeros_len hl1)
  have HS3 := hide (bbt_sizes 0 0 2 10 zeros32 (withB (withB zeros32 0) 9) zeros_len hl2)
  have HO1 := hide (bbtC_one 0 10 zeros32)
  have HO2 := hide (bbtC_one 1 10 (withB zeros32 0))
  have HO3 := hide (bbtC_one 2 10 (withB (withB zeros32 0) 9))
  have HAZ := hide (fun W => alloc_T W)
  clear hl1 hl2
  generalize bs (textL 2 10 (withB (withB zeros32 0) 9) 22) = tx at *
  generalize bbtC 2 10 (withB (withB zeros32 0) 9) = C3 at *
  generalize bbtC 1 10 (withB zeros32 0) = C2 at *
  generalize bbtC 0 10 zeros32 = C1 at *
  generalize bbtC 0 0 zeros32 = Z at *
  go_enter Try.func8, Try.ntmps8
  go_wp2_with fail
  refine (HNEW.out _).mono ?_
  rintro e w1 ⟨rfl, hb1⟩
  have HB1 := hide (row_below hb1 Z C1)
  go_wp2_with (first | ((with_reducible show wpList _ _ _ _ _ w1); refine wpList_alloc0 w1 rfl 26 rfl (.pointer (some ⟨w1.heap.size, 0, none⟩)) (w1.alloc (.cells Z 26)) (HAZ.out w1) ?_) | ((with_reducible show wpList _ _ _ _ _ (World.alloc _ _)); refine wpList_storeR rfl 26 (.tmp 1) (.tmp 11) rfl w1.heap.size rfl C1 rfl Z (heap_new w1 _) HI1.out HS1.out HO1.out ?_) | ((with_reducible show wpList _ _ _ _ _ (World.setRow _ _ _)); refine wpList_load_row rfl 26 (.tmp 1) rfl w1.heap.size rfl 26 C1 (0, 0) _ (row_new w1 Z C1) Try.underlying26 rfl HI1.out ?_))
  have HR1 := hide (row_new w1 Z C1)
  generalize (w1.alloc (.cells Z 26)).setRow w1.heap.size C1 = u1 at *
  generalize w1.heap.size = b1 at *
  clear hb1
  refine (HW0.out _).mono ?_
  rintro e w2 ⟨rfl, hb2⟩
  have HB2 := hide (row_below (below_trans HB1.out hb2) Z C2)
  have HR12 := hide ((row_old w2 Z C2 b1 (Nat.lt_of_lt_of_le (heap_lt HR1.out) hb2.size)).trans ((hb2.block _ (heap_lt HR1.out)).trans HR1.out))
  clear hb2 HB1 HR1
  go_wp2_with (first | ((with_reducible show wpList _ _ _ _ _ w2); refine wpList_alloc0 w2 rfl 26 rfl (.pointer (some ⟨w2.heap.size, 0, none⟩)) (w2.alloc (.cells Z 26)) (HAZ.out w2) ?_) | ((with_reducible show wpList _ _ _ _ _ (World.alloc _ _)); refine wpList_storeR rfl 26 (.tmp 3) (.tmp 16) rfl w2.heap.size rfl C2 rfl Z (heap_new w2 _) HI2.out HS2.out HO2.out ?_) | ((with_reducible show wpList _ _ _ _ _ (World.setRow _ _ _)); refine wpList_load_row rfl 26 (.tmp 3) rfl w2.heap.size rfl 26 C2 (0, 0) _ (row_new w2 Z C2) Try.underlying26 rfl HI2.out ?_))
  have HR2 := hide (row_new w2 Z C2)
  generalize (w2.alloc (.cells Z 26)).setRow w2.heap.size C2 = u2 at *
  generalize w2.heap.size = b2 at *
  refine (HW9.out _).mono ?_
  rintro e w3 ⟨rfl, hb3⟩
  have HB3 := hide (row_below (below_trans HB2.out hb3) Z C3)
  have HR13 := hide ((row_old w3 Z C3 b1 (Nat.lt_of_lt_of_le (heap_lt HR12.out) hb3.size)).trans ((hb3.block _ (heap_lt HR12.out)).trans HR12.out))
  clear hb3 HB2 HR12 HR2
  go_wp2_with (first | ((with_reducible show wpList _ _ _ _ _ w3); refine wpList_alloc0 w3 rfl 26 rfl (.pointer (some ⟨w3.heap.size, 0, none⟩)) (w3.alloc (.cells Z 26)) (HAZ.out w3) ?_) | ((with_reducible show wpList _ _ _ _ _ (World.alloc _ _)); refine wpList_storeR rfl 26 (.tmp 5) (.tmp 21) rfl w3.heap.size rfl C3 rfl Z (heap_new w3 _) HI3.out HS3.out HO3.out ?_) | ((with_reducible show wpList _ _ _ _ _ (World.setRow _ _ _)); refine wpList_load_row rfl 26 (.tmp 5) rfl w3.heap.size rfl 26 C3 (0, 0) _ (row_new w3 Z C3) Try.underlying26 rfl HI3.out ?_))
  have HR3 := hide (row_new w3 Z C3)
  generalize (w3.alloc (.cells Z 26)).setRow w3.heap.size C3 = u3 at *
  generalize w3.heap.size = b3 at *
  refine (HTX.out _).mono ?_
  rintro e w4 ⟨rfl, hb4⟩
  have HB4 := hide (below_trans HB3.out hb4)
  have HR14 := hide ((hb4.block _ (heap_lt HR13.out)).trans HR13.out)
  have HR34 := hide ((hb4.block _ (heap_lt HR3.out)).trans HR3.out)
  clear hb4 HB3 HR13 HR3
  go_wp2_with (first | ((with_reducible show wpList _ _ _ _ _ w4); refine load_T_g (by rfl) (.tmp 5) rfl b3 rfl C3 HR34.out HI3.out ?_))
  refine (HH9.out _).mono ?_
  rintro e w5 ⟨rfl, hb5⟩
  have HB5 := hide (below_trans HB4.out hb5)
  have HR15 := hide ((hb5.block _ (heap_lt HR14.out)).trans HR14.out)
  clear hb5 HB4 HR14 HR34
  go_wp2_with (first | ((with_reducible show wpList _ _ _ _ _ w5); refine load_T_g (by rfl) (.tmp 1) rfl b1 rfl C1 HR15.out HI1.out ?_))
  refine (HH0.out _).mono ?_
  rintro e w6 ⟨rfl, hb6⟩
  have HB6 := hide (below_trans HB5.out hb6)
  go_wp2_with fail
  go_ret
  exact ⟨rfl, HB6.out⟩
end Go.Proofs.Ytfphkldpjfackaa
