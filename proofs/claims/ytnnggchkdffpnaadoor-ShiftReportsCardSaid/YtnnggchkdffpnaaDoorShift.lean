/-
  Layer 26: shifts in memory; the program's calls, as far as wakes goes.
-/
import Derived.Test.YtnnggchkdffpnaaDoorCents5
import Derived.Test.YtnnggchkdffpnaaDoorKitU
import Derived.Laws.ResultCell
--import Derived.Test.Zdbg
namespace Go.Proofs.YtnnggchkdffpnaaDoor
set_option linter.unusedSimpArgs false
set_option linter.unusedVariables false
open Go.RowKit Go.WideShapes Go.ChangeShapes Go.ChangeAt Go.Deep

def totA (c s v r i o : Int) : Array Value := #[.int .i64 c, .int .i64 s, .int .i64 v, .int .i64 r, .int .i64 i, .int .i64 o]
/-- shifts lie at block p -/
def ShAt (w : World) (p : Nat) (k n : Int) (b : Bool) (c s v r i o : Int) (l : Value) : Prop := w.heap[p]? = some (.cells #[.int .i64 k, .int .i64 n, .bool b, .int .i64 c, .int .i64 s, .int .i64 v, .int .i64 r, .int .i64 i, .int .i64 o, l] 56 (0, 0))
theorem ShAt.below {w w' : World} {p : Nat} {k n : Int} {b : Bool} {c s v r i o : Int} {l : Value} (h : ShAt w p k n b c s v r i o l) (hb : Below w.heap.size w w') : ShAt w' p k n b c s v r i o l := (hb.block _ (heap_lt h)).trans h
theorem sh_facts {w : World} {p : Nat} {a0 a1 a2 a3 a4 a5 a6 a7 a8 a9 : Value} {t : TypeId} (h : w.heap[p]? = some (.cells #[a0, a1, a2, a3, a4, a5, a6, a7, a8, a9] t (0, 0))) :
    (w.cell? ⟨p, 0, none⟩ = some a0 ∧ w.cell? ⟨p, 1, none⟩ = some a1 ∧ w.cell? ⟨p, 2, none⟩ = some a2 ∧ w.cell? ⟨p, 3, none⟩ = some a3 ∧ w.cell? ⟨p, 4, none⟩ = some a4 ∧ w.cell? ⟨p, 5, none⟩ = some a5 ∧ w.cell? ⟨p, 6, none⟩ = some a6 ∧ w.cell? ⟨p, 7, none⟩ = some a7 ∧ w.cell? ⟨p, 8, none⟩ = some a8 ∧ w.cell? ⟨p, 9, none⟩ = some a9) ∧
    (w.frozen? ⟨p, 0, none⟩ = false ∧ w.frozen? ⟨p, 1, none⟩ = false ∧ w.frozen? ⟨p, 2, none⟩ = false ∧ w.frozen? ⟨p, 3, none⟩ = false ∧ w.frozen? ⟨p, 4, none⟩ = false ∧ w.frozen? ⟨p, 5, none⟩ = false ∧ w.frozen? ⟨p, 6, none⟩ = false ∧ w.frozen? ⟨p, 7, none⟩ = false ∧ w.frozen? ⟨p, 8, none⟩ = false ∧ w.frozen? ⟨p, 9, none⟩ = false) :=
  ⟨⟨cell_of_block h 0, cell_of_block h 1, cell_of_block h 2, cell_of_block h 3, cell_of_block h 4, cell_of_block h 5, cell_of_block h 6, cell_of_block h 7, cell_of_block h 8, cell_of_block h 9⟩,
   ⟨frozen_of_block h 0, frozen_of_block h 1, frozen_of_block h 2, frozen_of_block h 3, frozen_of_block h 4, frozen_of_block h 5, frozen_of_block h 6, frozen_of_block h 7, frozen_of_block h 8, frozen_of_block h 9⟩⟩
theorem ret_two' {a a' b b' : Value} (h1 : a = a') (h2 : b = b') : Ending.returned (.tuple #[a, b]) = .returned (.tuple #[a', b']) := by rw [h1, h2]
set_option maxRecDepth 100000 in
theorem snew_ok (k : Int) (h0 : 1 ≤ k) (h1 : k ≤ 64) (w : World) :
    Calls Tryd.prog 4 #[.int .i64 k] w fun e w' => e = .returned (.tuple #[.pointer (some ⟨w.heap.size, 0, none⟩), .int .i64 0]) ∧ ShAt w' w.heap.size k 1 false 0 0 0 0 0 0 (.slice none 0 0) ∧ Below w.heap.size w w' := by
  go_enter Tryd.func4, Tryd.ntmps4
  go_wp2_with fail
  go_ret2
  exact ⟨rfl, heap_new w _, (Below.refl _ _).alloc (Nat.le_refl _) _⟩
set_option maxRecDepth 100000 in
theorem open_any' (p : Nat) (k n : Int) (hn0 : 1 ≤ n) (hn1 : n ≤ 4294967296) (b : Bool) (c s v r i o : Int) (l : Value) (w : World) (h : ShAt w p k n b c s v r i o l) :
    Calls Tryd.prog 9 #[.pointer (some ⟨p, 0, none⟩)] w fun e w' => e = .returned (.int .i64 (if b = true then n - 1 else 0)) ∧ w = w' := by
  have c1 := cell_of_block h 1
  have c2 := cell_of_block h 2
  have hw : IntKind.i64.wrap (n - 1) = n - 1 := by rw [IntKind.wrap_i64]; omega
  clear h
  go_enter Tryd.func9, Tryd.ntmps9
  cases b with
  | false =>
    go_wp2_with fail
    go_ret
    exact ⟨rfl, rfl⟩
  | true =>
    go_wp2_with fail
    go_ret
    exact ⟨rfl, rfl⟩
set_option maxRecDepth 100000 in
theorem sums_any (c s v r i o : Int) (w : World) : Calls Tryd.prog 17 #[.agg (totA c s v r i o)] w fun e w' => e = .returned (.agg #[.int .i64 s, .int .i64 v, .int .i64 r, .int .i64 i, .int .i64 o]) ∧ Below w.heap.size w w' := by
  unfold totA
  go_enter Tryd.func17, Tryd.ntmps17
  go_wp2_with fail
  exact bodyPost_ret (results_cell_row (P := Tryd.prog) rfl _ _ (w.heap.size + 1) 59 #[.int .i64 s, .int .i64 v, .int .i64 r, .int .i64 i, .int .i64 o] (0, 0) (.array 5 32) rfl (by exact heap_alloc2_new w _ _) Tryd.underlying59 rfl (by kernel_rfl)) rfl ⟨rfl, by go_grown⟩
set_option maxRecDepth 100000 in
theorem totals_any (c s v r i o : Int) (w : World) : Calls Tryd.prog 19 #[.agg #[.int .i64 s, .int .i64 v, .int .i64 r, .int .i64 i, .int .i64 o], .int .i64 c] w fun e w' => e = .returned (.agg (totA c s v r i o)) ∧ Below w.heap.size w w' := by
  unfold totA
  go_enter Tryd.func19, Tryd.ntmps19
  go_wp2_with fail
  exact bodyPost_ret (results_cell_row (P := Tryd.prog) rfl _ _ (w.heap.size + 1) 34 #[.int .i64 c, .int .i64 s, .int .i64 v, .int .i64 r, .int .i64 i, .int .i64 o] (0, 0) (.struct _) rfl (by exact heap_alloc2_new w _ _) Tryd.underlying34 rfl (by kernel_rfl)) rfl ⟨rfl, by go_grown⟩
set_option maxRecDepth 100000 in
set_option maxHeartbeats 2000000 in
theorem start_ok (p : Nat) (k n : Int) (hn0 : 1 ≤ n) (hn1 : n ≤ 4294967295) (c s v r i o : Int) (l : Value) (w : World) (h : ShAt w p k n false c s v r i o l) (B : Nat) (hB : B ≤ p) :
    Calls Tryd.prog 6 #[.pointer (some ⟨p, 0, none⟩)] w fun e w' => e = .returned (.tuple #[.int .i64 n, .int .i64 0]) ∧ ShAt w' p k (n + 1) true 0 0 0 0 0 0 l ∧ Below B w w' := by
  have HOP := hide (fun W hW => open_any' p k (n + 1) (by omega) (by omega) true 0 0 0 0 0 0 l W hW)
  have hw : IntKind.i64.wrap (n + 1) = n + 1 := by rw [IntKind.wrap_i64]; omega
  have hng : ¬ n > 4294967295 := by omega
  obtain ⟨⟨c0, c1, c2, c3, c4, c5, c6, c7, c8, c9⟩, ⟨f0, f1, f2, f3, f4, f5, f6, f7, f8, f9⟩⟩ := sh_facts h
  have H := hide h
  clear h
  have B0 := hide (Below.refl B w)
  go_enter Tryd.func6, Tryd.ntmps6
  go_wp2_with fail
  clear c0 c1 c2 c3 c4 c5 c6 c7 c8 c9 f0 f1 f2 f3 f4 f5 f6 f7 f8 f9
  have N0 := hide (show (w.setCell ⟨p, 2, none⟩ (.bool true)).heap[p]? = some (.cells #[.int .i64 k, .int .i64 n, .bool true, .int .i64 c, .int .i64 s, .int .i64 v, .int .i64 r, .int .i64 i, .int .i64 o, l] 56 (0, 0)) from block_setCell H.out 2 (.bool true))
  have BB0 := hide (B0.out.setCell (p := ⟨p, 2, none⟩) hB (.bool true))
  generalize w.setCell ⟨p, 2, none⟩ (.bool true) = w0 at *
  have N1 := hide (show (w0.setCell ⟨p, 3, none⟩ (.int .i64 0)).heap[p]? = some (.cells #[.int .i64 k, .int .i64 n, .bool true, .int .i64 0, .int .i64 s, .int .i64 v, .int .i64 r, .int .i64 i, .int .i64 o, l] 56 (0, 0)) from block_setCell N0.out 3 (.int .i64 0))
  have BB1 := hide (BB0.out.setCell (p := ⟨p, 3, none⟩) hB (.int .i64 0))
  generalize w0.setCell ⟨p, 3, none⟩ (.int .i64 0) = w1 at *
  have N2 := hide (show (w1.setCell ⟨p, 4, none⟩ (.int .i64 0)).heap[p]? = some (.cells #[.int .i64 k, .int .i64 n, .bool true, .int .i64 0, .int .i64 0, .int .i64 v, .int .i64 r, .int .i64 i, .int .i64 o, l] 56 (0, 0)) from block_setCell N1.out 4 (.int .i64 0))
  have BB2 := hide (BB1.out.setCell (p := ⟨p, 4, none⟩) hB (.int .i64 0))
  generalize w1.setCell ⟨p, 4, none⟩ (.int .i64 0) = w2 at *
  have N3 := hide (show (w2.setCell ⟨p, 5, none⟩ (.int .i64 0)).heap[p]? = some (.cells #[.int .i64 k, .int .i64 n, .bool true, .int .i64 0, .int .i64 0, .int .i64 0, .int .i64 r, .int .i64 i, .int .i64 o, l] 56 (0, 0)) from block_setCell N2.out 5 (.int .i64 0))
  have BB3 := hide (BB2.out.setCell (p := ⟨p, 5, none⟩) hB (.int .i64 0))
  generalize w2.setCell ⟨p, 5, none⟩ (.int .i64 0) = w3 at *
  have N4 := hide (show (w3.setCell ⟨p, 6, none⟩ (.int .i64 0)).heap[p]? = some (.cells #[.int .i64 k, .int .i64 n, .bool true, .int .i64 0, .int .i64 0, .int .i64 0, .int .i64 0, .int .i64 i, .int .i64 o, l] 56 (0, 0)) from block_setCell N3.out 6 (.int .i64 0))
  have BB4 := hide (BB3.out.setCell (p := ⟨p, 6, none⟩) hB (.int .i64 0))
  generalize w3.setCell ⟨p, 6, none⟩ (.int .i64 0) = w4 at *
  have N5 := hide (show (w4.setCell ⟨p, 7, none⟩ (.int .i64 0)).heap[p]? = some (.cells #[.int .i64 k, .int .i64 n, .bool true, .int .i64 0, .int .i64 0, .int .i64 0, .int .i64 0, .int .i64 0, .int .i64 o, l] 56 (0, 0)) from block_setCell N4.out 7 (.int .i64 0))
  have BB5 := hide (BB4.out.setCell (p := ⟨p, 7, none⟩) hB (.int .i64 0))
  generalize w4.setCell ⟨p, 7, none⟩ (.int .i64 0) = w5 at *
  have N6 := hide (show (w5.setCell ⟨p, 8, none⟩ (.int .i64 0)).heap[p]? = some (.cells #[.int .i64 k, .int .i64 n, .bool true, .int .i64 0, .int .i64 0, .int .i64 0, .int .i64 0, .int .i64 0, .int .i64 0, l] 56 (0, 0)) from block_setCell N5.out 8 (.int .i64 0))
  have BB6 := hide (BB5.out.setCell (p := ⟨p, 8, none⟩) hB (.int .i64 0))
  generalize w5.setCell ⟨p, 8, none⟩ (.int .i64 0) = w6 at *
  have N7 := hide (show (w6.setCell ⟨p, 1, none⟩ (.int .i64 (n + 1))).heap[p]? = some (.cells #[.int .i64 k, .int .i64 (n + 1), .bool true, .int .i64 0, .int .i64 0, .int .i64 0, .int .i64 0, .int .i64 0, .int .i64 0, l] 56 (0, 0)) from block_setCell N6.out 1 (.int .i64 (n + 1)))
  have BB7 := hide (BB6.out.setCell (p := ⟨p, 1, none⟩) hB (.int .i64 (n + 1)))
  generalize w6.setCell ⟨p, 1, none⟩ (.int .i64 (n + 1)) = w7 at *
  refine (HOP.out _ N7.out).mono ?_
  rintro e w9 ⟨rfl, rfl⟩
  have hw2 : n + 1 - 1 = n := by omega
  go_wp2_with fail
  go_ret2
  exact ⟨by simp [hw2], N7.out, BB7.out⟩
set_option maxRecDepth 100000 in
set_option maxHeartbeats 1000000 in
theorem add1_ok (p : Nat) (k n : Int) (c s v r i o : Int) (l : Value) (x : Int) (am : Int) (h0 : 0 ≤ am) (hc : 0 ≤ c ∧ c ≤ 1000000) (hs : inR s) (ham : inR am) (hx : inR (s + am)) (hxe : s + am = x) (w : World) (h : ShAt w p k n true c s v r i o l) (B : Nat) (hB : B ≤ p) :
    Calls Tryd.prog 8 #[.pointer (some ⟨p, 0, none⟩), .int .u8 1, .int .i64 am] w fun e w' => e = .returned (.int .i64 0) ∧ ShAt w' p k n true (c + 1) x v r i o l ∧ Below B w w' := by
  have HSU := hide (fun W => sums_any c s v r i o W)
  have HTO := hide (fun W => totals_any (c + 1) x v r i o W)
  have HAD := hide (fun W => cadd_any s am hs ham W)
  rw [(sum_in hx).1, (sum_in hx).2, hxe] at HAD
  have hwc : IntKind.i64.wrap (c + 1) = c + 1 := by rw [IntKind.wrap_i64]; omega
  have hc2 : ¬ c = 4294967295 := by omega
  have ham0 : ¬ am < 0 := by omega
  have HBp := hide (show B ≤ w.heap.size from Nat.le_trans hB (Nat.le_of_lt (heap_lt h)))
  have N9 := hide h
  obtain ⟨⟨c0, c1, c2, c3, c4, c5, c6, c7, c8, c9⟩, ⟨f0, f1, f2, f3, f4, f5, f6, f7, f8, f9⟩⟩ := sh_facts h
  clear h hx hxe hs ham
  unfold totA at HSU
  go_enter Tryd.func8, Tryd.ntmps8
  go_wp2_with fail
  refine (HSU.out _).mono ?_
  rintro e w1 ⟨rfl, hb⟩
  have N8 := hide (N9.out.below hb)
  have BB8 := hide (hb.mono HBp.out)
  clear hb c0 c1 c2 c3 c4 c5 c6 c7 c8 c9 f0 f1 f2 f3 f4 f5 f6 f7 f8 f9
  obtain ⟨⟨c0, c1, c2, c3, c4, c5, c6, c7, c8, c9⟩, ⟨f0, f1, f2, f3, f4, f5, f6, f7, f8, f9⟩⟩ := sh_facts N8.out
  go_wp2_with fail
  refine (HAD.out _).mono ?_
  rintro e w2 ⟨rfl, rfl⟩
  go_upto_region 16 with (fail)
  obtain ⟨ol, hol⟩ : ∃ ol, ol = Obj.cells #[.int .i64 x, .int .i64 v, .int .i64 r, .int .i64 i, .int .i64 o] 59 := ⟨_, rfl⟩
  rw [← hol]
  have hal := (Below.refl w1.heap.size w1).alloc (Nat.le_refl _) ol
  have XL0 := hide (show (w1.alloc ol).drew.heap[w1.heap.size]? = _ from heap_new w1 ol)
  have N0 := hide (show ShAt (w1.alloc ol).drew p k n true c s v r i o l from ((hal.block _ (heap_lt N8.out)).trans N8.out))
  have BB0 := hide (show Below B w (w1.alloc ol).drew from (BB8.out.trans (hal.mono (Nat.le_trans HBp.out BB8.out.size))).drew)
  have HNE := hide (show p ≠ w1.heap.size from by have := heap_lt N8.out; omega)
  clear hal c0 c1 c2 c3 c4 c5 c6 c7 c8 c9 f0 f1 f2 f3 f4 f5 f6 f7 f8 f9
  generalize w1.alloc ol = w5 at *
  generalize w1.heap.size = lb at *
  rw [hol] at XL0
  clear hol ol
  refine wp_region_held_drew (S := (fun W => W.cell? ⟨lb, 0, none⟩ = some (.int .i64 x) ∧ W.cell? ⟨lb, 1, none⟩ = some (.int .i64 v) ∧ W.cell? ⟨lb, 2, none⟩ = some (.int .i64 r) ∧ W.cell? ⟨lb, 3, none⟩ = some (.int .i64 i) ∧ W.cell? ⟨lb, 4, none⟩ = some (.int .i64 o))) (by kernel_rfl) (⟨cell_of_block XL0.out 0, cell_of_block XL0.out 1, cell_of_block XL0.out 2, cell_of_block XL0.out 3, cell_of_block XL0.out 4⟩) (fun hHeld => ?_)
  generalize w5.drew = u0 at *
  have c3 := (sh_facts N0.out).1.2.2.2.1
  refine wpAnyH_take (i := 0) (oi := { dst := some 62, op := Op.move (Operand.tmp 0), type := 23, pos := "shift.go:109", after := #[], guard := none }) (v := ?_) rfl (by kernel_rfl) (by kernel_rfl) (by kernel_rfl) (fun _ _ _ h => h) (Or.inl ⟨by kernel_rfl, ?_⟩) hHeld ?_
  rotate_left
  · (intro w hSw; (try dsimp only at hSw); go_simp); try with_reducible rfl
  try simp only [Act.put, List.setIfInBounds_toArray, List.set_cons_zero, List.set_cons_succ]
  refine wpAnyH_take (i := 1) (oi := { dst := some 63, op := Op.load 59 (Operand.tmp 7), type := 59, pos := "shift.go:109", after := #[], guard := none }) (v := ?_) rfl (by kernel_rfl) (by kernel_rfl) (by kernel_rfl) (fun _ _ _ h => h) (Or.inl ⟨by kernel_rfl, ?_⟩) hHeld ?_
  rotate_left
  · (intro w hSw; (try dsimp only at hSw); go_simp); try with_reducible rfl
  try simp only [Act.put, List.setIfInBounds_toArray, List.set_cons_zero, List.set_cons_succ]
  refine wpAnyH_take (i := 2) (oi := { dst := some 64, op := Op.move (Operand.tmp 0), type := 23, pos := "shift.go:109", after := #[], guard := none }) (v := ?_) rfl (by kernel_rfl) (by kernel_rfl) (by kernel_rfl) (fun _ _ _ h => h) (Or.inl ⟨by kernel_rfl, ?_⟩) hHeld ?_
  rotate_left
  · (intro w hSw; (try dsimp only at hSw); go_simp); try with_reducible rfl
  try simp only [Act.put, List.setIfInBounds_toArray, List.set_cons_zero, List.set_cons_succ]
  refine wpAnyH_take (i := 3) (oi := { dst := some 65, op := Op.nilCheck (Operand.tmp 64), type := 0, pos := "shift.go:109", after := #[{ on := 2, ground := Ground.data }], guard := none }) (v := ?_) rfl (by kernel_rfl) (by kernel_rfl) (by kernel_rfl) (fun _ _ _ h => h) (Or.inl ⟨by kernel_rfl, ?_⟩) hHeld ?_
  rotate_left
  · (intro w hSw; (try dsimp only at hSw); go_simp); try with_reducible rfl
  try simp only [Act.put, List.setIfInBounds_toArray, List.set_cons_zero, List.set_cons_succ]
  refine wpAnyH_take (i := 4) (oi := { dst := some 66, op := Op.fieldAddr 56 (Operand.tmp 65) 3, type := 0, pos := "shift.go:109", after := #[{ on := 3, ground := Ground.data }], guard := none }) (v := ?_) rfl (by kernel_rfl) (by kernel_rfl) (by kernel_rfl) (fun _ _ _ h => h) (Or.inl ⟨by kernel_rfl, ?_⟩) hHeld ?_
  rotate_left
  · (intro w hSw; (try dsimp only at hSw); go_simp); try with_reducible rfl
  try simp only [Act.put, List.setIfInBounds_toArray, List.set_cons_zero, List.set_cons_succ]
  refine wpAnyH_take (i := 5) (oi := { dst := some 67, op := Op.fieldAddr 34 (Operand.tmp 66) 0, type := 0, pos := "shift.go:109", after := #[{ on := 4, ground := Ground.data }], guard := none }) (v := ?_) rfl (by kernel_rfl) (by kernel_rfl) (by kernel_rfl) (fun _ _ _ h => h) (Or.inl ⟨by kernel_rfl, ?_⟩) hHeld ?_
  rotate_left
  · (intro w hSw; (try dsimp only at hSw); go_simp); try with_reducible rfl
  try simp only [Act.put, List.setIfInBounds_toArray, List.set_cons_zero, List.set_cons_succ]
  refine wpAnyH_ready (rs := [6]) (by kernel_rfl) (by simp) (AllReadyH.cons (o := { dst := some 68, op := Op.load 3 (Operand.tmp 67), type := 3, pos := "shift.go:109", after := #[{ on := 5, ground := Ground.data }], guard := none }) rfl (fun K hK => ?_) AllReadyH.nil)
  have hOld := hide hHeld
  clear hHeld
  go_simp
  clear c3
  (try go_wp2_with fail)
  refine hK.out _ _ (⟨cell_of_block XL0.out 0, cell_of_block XL0.out 1, cell_of_block XL0.out 2, cell_of_block XL0.out 3, cell_of_block XL0.out 4⟩) (fun hHeld => ?_)
  clear hK K hOld
  try simp only [Act.put, List.setIfInBounds_toArray, List.set_cons_zero, List.set_cons_succ]
  refine wpAnyH_take (i := 7) (oi := { dst := some 69, op := Op.binOp BinOp.add 3 (Operand.tmp 68) (Operand.const (Value.int IntKind.i64 1)) 3, type := 3, pos := "shift.go:109", after := #[{ on := 6, ground := Ground.data }], guard := none }) (v := ?_) rfl (by kernel_rfl) (by kernel_rfl) (by kernel_rfl) (fun _ _ _ h => h) (Or.inl ⟨by kernel_rfl, ?_⟩) hHeld ?_
  rotate_left
  · (intro w hSw; (try dsimp only at hSw); go_simp); try with_reducible rfl
  try simp only [Act.put, List.setIfInBounds_toArray, List.set_cons_zero, List.set_cons_succ]
  refine wpAnyH_ready (rs := [8]) (by kernel_rfl) (by simp) (AllReadyH.cons (o := { dst := some 70, op := Op.call { callee := Callee.value (Operand.func 19), args := #[Operand.tmp 63, Operand.tmp 69], argTypes := #[59, 3] }, type := 34, pos := "shift.go:109", after := #[{ on := 1, ground := Ground.data }, { on := 7, ground := Ground.data }], guard := none }) rfl (fun K hK => ?_) AllReadyH.nil)
  have hOld := hide hHeld
  clear hHeld
  go_simp
  refine (HTO.out _).mono ?_
  rintro e u1 ⟨rfl, hb⟩
  have XL1 := hide ((hb.block _ (heap_lt XL0.out)).trans XL0.out)
  have N1 := hide (N0.out.below hb)
  have BB1 := hide (BB0.out.trans (hb.mono (Nat.le_trans HBp.out BB0.out.size)))
  clear hb
  obtain ⟨⟨c0, c1, c2, c3, c4, c5, c6, c7, c8, c9⟩, ⟨f0, f1, f2, f3, f4, f5, f6, f7, f8, f9⟩⟩ := sh_facts N1.out
  unfold totA
  (try go_wp2_with fail)
  refine hK.out _ _ (⟨cell_of_block XL1.out 0, cell_of_block XL1.out 1, cell_of_block XL1.out 2, cell_of_block XL1.out 3, cell_of_block XL1.out 4⟩) (fun hHeld => ?_)
  clear hK K hOld
  try simp only [Act.put, List.setIfInBounds_toArray, List.set_cons_zero, List.set_cons_succ]
  refine wpAnyH_take (i := 9) (oi := { dst := some 71, op := Op.nilCheck (Operand.tmp 62), type := 0, pos := "shift.go:109", after := #[{ on := 0, ground := Ground.data }, { on := 0, ground := Ground.phase }, { on := 1, ground := Ground.phase }, { on := 2, ground := Ground.phase }, { on := 3, ground := Ground.phase }, { on := 4, ground := Ground.phase }, { on := 5, ground := Ground.phase }, { on := 6, ground := Ground.phase }, { on := 7, ground := Ground.phase }, { on := 8, ground := Ground.phase }], guard := none }) (v := ?_) rfl (by kernel_rfl) (by kernel_rfl) (by kernel_rfl) (fun _ _ _ h => h) (Or.inl ⟨by kernel_rfl, ?_⟩) hHeld ?_
  rotate_left
  · (intro w hSw; (try dsimp only at hSw); go_simp); try with_reducible rfl
  try simp only [Act.put, List.setIfInBounds_toArray, List.set_cons_zero, List.set_cons_succ]
  refine wpAnyH_take (i := 10) (oi := { dst := some 72, op := Op.fieldAddr 56 (Operand.tmp 71) 3, type := 0, pos := "shift.go:109", after := #[{ on := 9, ground := Ground.data }, { on := 0, ground := Ground.phase }, { on := 1, ground := Ground.phase }, { on := 2, ground := Ground.phase }, { on := 3, ground := Ground.phase }, { on := 4, ground := Ground.phase }, { on := 5, ground := Ground.phase }, { on := 6, ground := Ground.phase }, { on := 7, ground := Ground.phase }, { on := 8, ground := Ground.phase }], guard := none }) (v := ?_) rfl (by kernel_rfl) (by kernel_rfl) (by kernel_rfl) (fun _ _ _ h => h) (Or.inl ⟨by kernel_rfl, ?_⟩) hHeld ?_
  rotate_left
  · (intro w hSw; (try dsimp only at hSw); go_simp); try with_reducible rfl
  try simp only [Act.put, List.setIfInBounds_toArray, List.set_cons_zero, List.set_cons_succ]
  refine wpAnyH_ready (rs := [11]) (by kernel_rfl) (by simp) (AllReadyH.cons (o := { dst := none, op := Op.store 34 (Operand.tmp 72) (Operand.tmp 70), type := 0, pos := "shift.go:109", after := #[{ on := 10, ground := Ground.data }, { on := 8, ground := Ground.data }, { on := 8, ground := Ground.chain }, { on := 0, ground := Ground.phase }, { on := 1, ground := Ground.phase }, { on := 2, ground := Ground.phase }, { on := 3, ground := Ground.phase }, { on := 4, ground := Ground.phase }, { on := 5, ground := Ground.phase }, { on := 6, ground := Ground.phase }, { on := 7, ground := Ground.phase }, { on := 8, ground := Ground.phase }], guard := none }) rfl (fun K hK => ?_) AllReadyH.nil)
  have hOld := hide hHeld
  clear hHeld
  go_simp
  clear c0 c1 c2 c3 c4 c5 c6 c7 c8 c9 f0 f1 f2 f3 f4 f5 f6 f7 f8 f9
  have M0 := hide (show (u1.setCell ⟨p, 3, none⟩ (.int .i64 (c + 1))).heap[p]? = some (.cells #[.int .i64 k, .int .i64 n, .bool true, .int .i64 (c + 1), .int .i64 s, .int .i64 v, .int .i64 r, .int .i64 i, .int .i64 o, l] 56 (0, 0)) from block_setCell N1.out 3 (.int .i64 (c + 1)))
  have MB0 := hide (BB1.out.setCell (p := ⟨p, 3, none⟩) hB (.int .i64 (c + 1)))
  have ML0 := hide ((block_setCell_other (show p ≠ lb from HNE.out) 3 (.int .i64 (c + 1))).trans XL1.out)
  generalize u1.setCell ⟨p, 3, none⟩ (.int .i64 (c + 1)) = m0 at *
  have M1 := hide (show (m0.setCell ⟨p, 4, none⟩ (.int .i64 x)).heap[p]? = some (.cells #[.int .i64 k, .int .i64 n, .bool true, .int .i64 (c + 1), .int .i64 x, .int .i64 v, .int .i64 r, .int .i64 i, .int .i64 o, l] 56 (0, 0)) from block_setCell M0.out 4 (.int .i64 x))
  have MB1 := hide (MB0.out.setCell (p := ⟨p, 4, none⟩) hB (.int .i64 x))
  have ML1 := hide ((block_setCell_other (show p ≠ lb from HNE.out) 4 (.int .i64 x)).trans ML0.out)
  generalize m0.setCell ⟨p, 4, none⟩ (.int .i64 x) = m1 at *
  have M2 := hide (show (m1.setCell ⟨p, 5, none⟩ (.int .i64 v)).heap[p]? = some (.cells #[.int .i64 k, .int .i64 n, .bool true, .int .i64 (c + 1), .int .i64 x, .int .i64 v, .int .i64 r, .int .i64 i, .int .i64 o, l] 56 (0, 0)) from block_setCell M1.out 5 (.int .i64 v))
  have MB2 := hide (MB1.out.setCell (p := ⟨p, 5, none⟩) hB (.int .i64 v))
  have ML2 := hide ((block_setCell_other (show p ≠ lb from HNE.out) 5 (.int .i64 v)).trans ML1.out)
  generalize m1.setCell ⟨p, 5, none⟩ (.int .i64 v) = m2 at *
  have M3 := hide (show (m2.setCell ⟨p, 6, none⟩ (.int .i64 r)).heap[p]? = some (.cells #[.int .i64 k, .int .i64 n, .bool true, .int .i64 (c + 1), .int .i64 x, .int .i64 v, .int .i64 r, .int .i64 i, .int .i64 o, l] 56 (0, 0)) from block_setCell M2.out 6 (.int .i64 r))
  have MB3 := hide (MB2.out.setCell (p := ⟨p, 6, none⟩) hB (.int .i64 r))
  have ML3 := hide ((block_setCell_other (show p ≠ lb from HNE.out) 6 (.int .i64 r)).trans ML2.out)
  generalize m2.setCell ⟨p, 6, none⟩ (.int .i64 r) = m3 at *
  have M4 := hide (show (m3.setCell ⟨p, 7, none⟩ (.int .i64 i)).heap[p]? = some (.cells #[.int .i64 k, .int .i64 n, .bool true, .int .i64 (c + 1), .int .i64 x, .int .i64 v, .int .i64 r, .int .i64 i, .int .i64 o, l] 56 (0, 0)) from block_setCell M3.out 7 (.int .i64 i))
  have MB4 := hide (MB3.out.setCell (p := ⟨p, 7, none⟩) hB (.int .i64 i))
  have ML4 := hide ((block_setCell_other (show p ≠ lb from HNE.out) 7 (.int .i64 i)).trans ML3.out)
  generalize m3.setCell ⟨p, 7, none⟩ (.int .i64 i) = m4 at *
  have M5 := hide (show (m4.setCell ⟨p, 8, none⟩ (.int .i64 o)).heap[p]? = some (.cells #[.int .i64 k, .int .i64 n, .bool true, .int .i64 (c + 1), .int .i64 x, .int .i64 v, .int .i64 r, .int .i64 i, .int .i64 o, l] 56 (0, 0)) from block_setCell M4.out 8 (.int .i64 o))
  have MB5 := hide (MB4.out.setCell (p := ⟨p, 8, none⟩) hB (.int .i64 o))
  have ML5 := hide ((block_setCell_other (show p ≠ lb from HNE.out) 8 (.int .i64 o)).trans ML4.out)
  generalize m4.setCell ⟨p, 8, none⟩ (.int .i64 o) = m5 at *
  (try go_wp2_with fail)
  refine hK.out _ _ (⟨cell_of_block ML5.out 0, cell_of_block ML5.out 1, cell_of_block ML5.out 2, cell_of_block ML5.out 3, cell_of_block ML5.out 4⟩) (fun hHeld => ?_)
  clear hK K hOld
  try simp only [Act.put, List.setIfInBounds_toArray, List.set_cons_zero, List.set_cons_succ]
  refine wpAnyH_done (by kernel_rfl) ?_ _
  clear hHeld
  go_wp2_with fail
  go_ret
  exact ⟨rfl, M5.out, MB5.out⟩
end Go.Proofs.YtnnggchkdffpnaaDoor
