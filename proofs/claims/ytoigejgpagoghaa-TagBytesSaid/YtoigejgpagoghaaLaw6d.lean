/-
  Layer 6: TagBytes.
-/
import Derived.Test.YtoigejgpagoghaaLaw6b
import Derived.Test.YtoigejgpagoghaaRTag2
namespace Go.Proofs.Ytoigejgpagoghaa
set_option linter.unusedSimpArgs false
set_option linter.unusedVariables false
open Go.RowKit Go.WideShapes Go.ChangeShapes Go.ChangeAt

instance (k l p n : Int) : Decidable (TagOk k l p n) := by unfold TagOk; infer_instance
/-- a frame's bytes, or none; its error -/
def frL (k l s p n : Int) (d : List UInt8) : List UInt8 := if TagOk k l p n then frameL k l s p n d else []
def frE (k l p n : Int) : Int := if TagOk k l p n then 0 else 2
theorem frL_length (k l s p n : Int) (d : List UInt8) : (frL k l s p n d).length ≤ 32 := by
  unfold frL
  split
  · rw [frameL_length]; omega
  · simp
theorem frame_any (b o : Nat) (k l s p n : Int) (s0 : 0 ≤ s) (s1 : s ≤ 18446744073709551615) (d : List UInt8) (hd : d.length ≤ 1000000) (w : World) (ht : TabAt w b o) :
    Calls Try.prog 9 #[.pointer (some ⟨b, o, none⟩), .agg #[.int .u8 k, .int .i64 l, .int .u64 s, .int .i64 p, .int .i64 n], .string (bs d)] w fun e w' => e = .returned (.tuple #[.string (bs (frL k l s p n d)), .int .i64 (frE k l p n)]) ∧ Below w.heap.size w w' := by
  unfold frL frE
  split
  · rename_i h
    exact frame_ok b o k l s p n h s0 s1 d (by omega) w ht
  · rename_i h
    exact frame_arg b o k l s p n h (bs d) w
theorem rframe_any (k l s p n : Int) (s0 : 0 ≤ s) (s1 : s ≤ 18446744073709551615) (d : List UInt8) (hd : d.length ≤ 1000000) (w : World) :
    Calls Try.prog 11 #[.agg #[.int .u8 k, .int .i64 l, .int .u64 s, .int .i64 p, .int .i64 n], .string (bs d)] w fun e w' => e = .returned (.tuple #[.string (bs (frL k l s p n d)), .int .i64 (frE k l p n)]) ∧ Below w.heap.size w w' := by
  unfold frL frE
  split
  · rename_i h
    exact rframe_ok k l s p n h s0 s1 d hd w
  · rename_i h
    exact rframe_arg k l s p n h (bs d) w
theorem tright_any (k l s p n : Int) (w : World) :
    Calls Try.prog 12 #[.agg #[.int .u8 k, .int .i64 l, .int .u64 s, .int .i64 p, .int .i64 n]] w fun e w' => e = .returned (.bool (decide (TagOk k l p n))) ∧ Below w.heap.size w w' := by
  by_cases h : TagOk k l p n
  · rw [decide_eq_true h]; exact tright_yes k l s p n h w
  · rw [decide_eq_false h]; exact tright_no k l s p n h w
theorem rright_any (k l s p n : Int) (w : World) :
    Calls Try.prog 13 #[.agg #[.int .u8 k, .int .i64 l, .int .u64 s, .int .i64 p, .int .i64 n]] w fun e w' => e = .returned (.bool (decide (TagOk k l p n))) ∧ Below w.heap.size w w' := by
  by_cases h : TagOk k l p n
  · rw [decide_eq_true h]; exact rright_yes k l s p n h w
  · rw [decide_eq_false h]; exact rright_no k l s p n h w
theorem parseV_is (d l : List UInt8) : ∃ a b c e f : Int, parseV d l = .agg #[.int .u8 a, .int .i64 b, .int .u64 c, .int .i64 e, .int .i64 f] := by
  by_cases h : parseE d l = 0
  · rw [parseV_ok d l h]; exact ⟨_, _, _, _, _, rfl⟩
  · rw [parseV_no d l h]; exact ⟨_, _, _, _, _, rfl⟩
/-- a tag as it came in, the table, what is below -/
structure TO (w0 W : World) (A : Nat) (T : Array Value) (pb : Nat) : Prop where
  one : W.heap[A]? = some (.cells T 24 (0, 0))
  tab : TabAt W pb 0
  below : Below w0.heap.size w0 W
theorem TO.kept {w0 W W' : World} {A : Nat} {T : Array Value} {pb : Nat} (h : TO w0 W A T pb) (hb : Below W.heap.size W W') : TO w0 W' A T pb :=
  ⟨(hb.block _ (heap_lt h.one)).trans h.one, tabAt_kept h.tab hb, below_trans h.below hb⟩
theorem TO.drew {w0 W : World} {A : Nat} {T : Array Value} {pb : Nat} (h : TO w0 W A T pb) : TO w0 W.drew A T pb := ⟨h.one, h.tab, h.below.drew⟩
theorem TO.new {w w1 : World} {k l s p n : Int} (hb : Below (w.alloc (.cells (tagC k l s p n) 24)).drew.heap.size (w.alloc (.cells (tagC k l s p n) 24)).drew w1) :
    TO w (w1.alloc (.cells (tabC 256) 27)) w.heap.size (tagC k l s p n) w1.heap.size := by
  have hsz : (w.alloc (.cells (tagC k l s p n) 24)).heap.size = w.heap.size + 1 := heap_alloc_sz _ _
  have h2 := hb.size
  change (w.alloc (.cells (tagC k l s p n) 24)).heap.size ≤ _ at h2
  have h5 := hb.block w.heap.size (by show w.heap.size < (w.alloc (.cells (tagC k l s p n) 24)).heap.size; omega)
  have hB := below_trans (((Below.refl w.heap.size w).alloc (Nat.le_refl _) (.cells (tagC k l s p n) 24)).drew) hb
  exact ⟨(heap_old w1 _ _ (by omega)).trans (h5.trans (heap_new w _)), tabAt_new w1, hB.alloc hB.size _⟩
def SO (A : Nat) (k l s p n : Int) (W : World) : Prop :=
  W.cell? ⟨A, 0, none⟩ = some (.int .u8 k) ∧ W.cell? ⟨A, 1, none⟩ = some (.int .i64 l) ∧ W.cell? ⟨A, 2, none⟩ = some (.int .u64 s) ∧ W.cell? ⟨A, 3, none⟩ = some (.int .i64 p) ∧ W.cell? ⟨A, 4, none⟩ = some (.int .i64 n)
theorem SO.of {W : World} {A : Nat} {k l s p n : Int} {T : TypeId} (h : W.heap[A]? = some (.cells (tagC k l s p n) T (0, 0))) : SO A k l s p n W := (tagC_cells h).1
def SO2 (A : Nat) (k l s p n : Int) (B : Nat) (k' l' s' p' n' : Int) (W : World) : Prop := SO A k l s p n W ∧ SO B k' l' s' p' n' W
/-- the row of both tags -/
def row10 (k l s p n k' l' p' n' : Int) : Array Value := #[.int .u8 k, .int .i64 l, .int .u64 s, .int .i64 p, .int .i64 n, .int .u8 k', .int .i64 l', .int .u64 s, .int .i64 p', .int .i64 n']
theorem row10_at {W : World} {R : Nat} {k l s p n k' l' p' n' : Int} {T : TypeId} {fr : Nat × Nat} (h : W.heap[R]? = some (.cells (row10 k l s p n k' l' p' n') T fr)) (j : Nat) (hj : j < 2) (k0 : 0 ≤ k ∧ k ≤ 255) (k0' : 0 ≤ k' ∧ k' ≤ 255) :
    ∃ a b c d : Int, (0 ≤ a ∧ a ≤ 255) ∧ W.cell? ⟨R, j * 5, none⟩ = some (.int .u8 a) ∧ W.cell? ⟨R, j * 5 + 1, none⟩ = some (.int .i64 b) ∧ W.cell? ⟨R, j * 5 + 2, none⟩ = some (.int .u64 s) ∧ W.cell? ⟨R, j * 5 + 3, none⟩ = some (.int .i64 c) ∧ W.cell? ⟨R, j * 5 + 4, none⟩ = some (.int .i64 d) := by
  have hj2 : j = 0 ∨ j = 1 := by omega
  rcases hj2 with rfl | rfl
  · exact ⟨k, l, p, n, k0, by rw [cell_of_block h]; rfl, by rw [cell_of_block h]; rfl, by rw [cell_of_block h]; rfl, by rw [cell_of_block h]; rfl, by rw [cell_of_block h]; rfl⟩
  · exact ⟨k', l', p', n', k0', by rw [cell_of_block h]; rfl, by rw [cell_of_block h]; rfl, by rw [cell_of_block h]; rfl, by rw [cell_of_block h]; rfl, by rw [cell_of_block h]; rfl⟩
/-- with the row of both tags -/
structure TP (w0 W : World) (A : Nat) (T : Array Value) (pb R : Nat) (C : Array Value) : Prop where
  bas : TO w0 W A T pb
  row : W.heap[R]? = some (.cells C 24 (0, 0))
theorem TP.kept {w0 W W' : World} {A : Nat} {T : Array Value} {pb R : Nat} {C : Array Value} (h : TP w0 W A T pb R C) (hb : Below W.heap.size W W') : TP w0 W' A T pb R C :=
  ⟨h.bas.kept hb, (hb.block _ (heap_lt h.row)).trans h.row⟩
theorem TP.alloc {w0 W : World} {A : Nat} {T : Array Value} {pb R : Nat} {C : Array Value} (h : TP w0 W A T pb R C) (o : Obj) : TP w0 (W.alloc o) A T pb R C := h.kept ((Below.refl _ _).alloc (Nat.le_refl _) _)
theorem TP.drew {w0 W : World} {A : Nat} {T : Array Value} {pb R : Nat} {C : Array Value} (h : TP w0 W A T pb R C) : TP w0 W.drew A T pb R C := ⟨h.bas.drew, h.row⟩
theorem row3_at {W : World} {R : Nat} {a b c : List UInt8} {T : TypeId} {fr : Nat × Nat} (h : W.heap[R]? = some (.cells #[.string (bs a), .string (bs b), .string (bs c)] T fr)) (j : Nat) (hj : j < 3) (ha : a.length ≤ 1000) (hb : b.length ≤ 1000) (hc : c.length ≤ 1000) :
    ∃ L : List UInt8, L.length ≤ 1000 ∧ W.cell? ⟨R, j, none⟩ = some (.string (bs L)) := by
  have hj2 : j = 0 ∨ j = 1 ∨ j = 2 := by omega
  rcases hj2 with rfl | rfl | rfl
  · exact ⟨a, ha, by rw [cell_of_block h]; rfl⟩
  · exact ⟨b, hb, by rw [cell_of_block h]; rfl⟩
  · exact ⟨c, hc, by rw [cell_of_block h]; rfl⟩
set_option maxRecDepth 100000 in
set_option maxHeartbeats 2000000 in
theorem tagBytes_walk (k l s p n : Int) (k0 : 0 ≤ k) (k1 : k ≤ 255) (s0 : 0 ≤ s) (s1 : s ≤ 18446744073709551615) (data beside : ByteArray) (hd : data.size ≤ 9223372036854775807) (hb : beside.size ≤ 9223372036854775807) (w : World) :
    Calls Try.prog 3 #[.agg #[.int .u8 k, .int .i64 l, .int .u64 s, .int .i64 p, .int .i64 n], .string data, .string beside] w fun e w' => e = .returned (.bool true) ∧ Below w.heap.size w w' := by
  have z := (zero_of_info tab_zero).1
  have hsz := tabC_size 256
  have hst := tab_store
  have hm1 : (min (data.size : Int) 200) ≤ data.size := by omega
  have hm2 : (min (beside.size : Int) 40) ≤ beside.size := by omega
  have hm3 : 0 ≤ (min (data.size : Int) 200) := by omega
  have hm4 : 0 ≤ (min (beside.size : Int) 40) := by omega
  obtain ⟨D, hD, hDl⟩ := cut_list data 200 (by omega)
  obtain ⟨B, hB, hBl⟩ := cut_list beside 40 (by omega)
  have HD := hide hD
  have HB := hide hB
  have hok := tame_ok k l p n k0
  have HTA := hide (fun W => tame_any k l s p n k0 k1 W)
  generalize tkZ k = tk at *
  generalize tlZ l = tl at *
  generalize tpZ p n = tp at *
  generalize tnZ n = tn at *
  have htk : 0 ≤ tk ∧ tk ≤ 255 := by obtain ⟨h1, h2, -⟩ := hok; omega
  clear hD hB hok
  go_enter Try.func3, Try.ntmps3
  go_wp2_with fail
  go_region
  go_wp2_with fail
  rw [HD.out, HB.out]
  clear HD HB hm1 hm2 hm3 hm4 hd hb
  have hDs := bs_size D
  have hBs := bs_size B
  refine (make_any _).mono ?_
  rintro e w1 ⟨rfl, hb⟩
  have HT := hide (TO.new (k := k) (l := l) (s := s) (p := p) (n := n) hb)
  clear hb
  go_upto_region 3 with (fail)
  generalize hW3 : w1.alloc (.cells (tabC 256) 27) = W3 at *
  generalize w1.heap.size = pb at *
  have HT0 := hide HT.out.drew
  clear HT hW3
  refine wp_region_held_drew (S := (SO w.heap.size k l s p n)) (by kernel_rfl) (SO.of HT0.out.one) (fun hHeld => ?_)
  generalize W3.drew = v0 at *
  refine wpAnyH_take (i := 0) (oi := { dst := some 35, op := Op.load 24 (Operand.tmp 3), type := 24, pos := "law.go:44", after := #[], guard := none }) (v := ?_) rfl (by kernel_rfl) (by kernel_rfl) (by kernel_rfl) (fun _ _ _ h => h) (Or.inl ⟨by kernel_rfl, ?_⟩) hHeld ?_
  rotate_left
  · (intro w hSw; (try dsimp only at hSw); (try unfold SO at hSw); go_simp); try with_reducible rfl
  try simp only [Act.put, List.setIfInBounds_toArray, List.set_cons_zero, List.set_cons_succ]
  refine wpAnyH_take (i := 1) (oi := { dst := some 36, op := Op.load 24 (Operand.tmp 3), type := 24, pos := "law.go:44", after := #[], guard := none }) (v := ?_) rfl (by kernel_rfl) (by kernel_rfl) (by kernel_rfl) (fun _ _ _ h => h) (Or.inl ⟨by kernel_rfl, ?_⟩) hHeld ?_
  rotate_left
  · (intro w hSw; (try dsimp only at hSw); (try unfold SO at hSw); go_simp); try with_reducible rfl
  try simp only [Act.put, List.setIfInBounds_toArray, List.set_cons_zero, List.set_cons_succ]
  refine wpAnyH_take (i := 5) (oi := { dst := some 40, op := Op.move (Operand.const (Value.int IntKind.i64 0)), type := 3, pos := "law.go:44", after := #[], guard := none }) (v := ?_) rfl (by kernel_rfl) (by kernel_rfl) (by kernel_rfl) (fun _ _ _ h => h) (Or.inl ⟨by kernel_rfl, ?_⟩) hHeld ?_
  rotate_left
  · (intro w hSw; (try dsimp only at hSw); (try unfold SO at hSw); go_simp); try with_reducible rfl
  try simp only [Act.put, List.setIfInBounds_toArray, List.set_cons_zero, List.set_cons_succ]
  refine wpAnyH_ready (rs := [2]) (by kernel_rfl) (by simp) (AllReadyH.cons (o := { dst := some 37, op := Op.call { callee := Callee.value (Operand.func 8), args := #[Operand.tmp 36], argTypes := #[24] }, type := 24, pos := "law.go:44", after := #[{ on := 1, ground := Ground.data }], guard := none }) rfl (fun K hK => ?_) AllReadyH.nil)
  have hOld := hide hHeld
  clear hHeld
  go_simp
  refine (HTA.out _).mono ?_
  rintro e v1 ⟨rfl, hb⟩
  have HT1 := hide (HT0.out.kept hb)
  clear hb
  (try go_wp2_with fail)
  refine hK.out _ _ (SO.of HT1.out.one) (fun hHeld => ?_)
  clear hK K hOld
  try simp only [Act.put, List.setIfInBounds_toArray, List.set_cons_zero, List.set_cons_succ]
  refine wpAnyH_ready (rs := [3]) (by kernel_rfl) (by simp) (AllReadyH.cons (o := { dst := some 38, op := Op.buildSlice 30 2 #[(0, Operand.tmp 35), (1, Operand.tmp 37)], type := 30, pos := "law.go:44", after := #[{ on := 0, ground := Ground.data }, { on := 2, ground := Ground.data }], guard := none }) rfl (fun K hK => ?_) AllReadyH.nil)
  have hOld := hide hHeld
  clear hHeld
  go_simp
  have HT2 := hide (HT1.out.kept ((Below.refl _ _).alloc (Nat.le_refl _) (Obj.cells (row10 k l s p n tk tl tp tn) 24)))
  have HRW := hide (show (World.alloc v1 (Obj.cells (row10 k l s p n tk tl tp tn) 24)).heap[v1.heap.size]? = some (Obj.cells (row10 k l s p n tk tl tp tn) 24) from heap_new v1 (Obj.cells (row10 k l s p n tk tl tp tn) 24))
  (try go_wp2_with fail)
  refine hK.out _ _ (SO.of HT2.out.one) (fun hHeld => ?_)
  clear hK K hOld
  try simp only [Act.put, List.setIfInBounds_toArray, List.set_cons_zero, List.set_cons_succ]
  refine wpAnyH_take (i := 4) (oi := { dst := some 39, op := Op.call { callee := Callee.builtin Builtin.len, args := #[Operand.tmp 38], argTypes := #[30] }, type := 3, pos := "law.go:44", after := #[{ on := 3, ground := Ground.data }], guard := none }) (v := ?_) rfl (by kernel_rfl) (by kernel_rfl) (by kernel_rfl) (fun _ _ _ h => h) (Or.inl ⟨by kernel_rfl, ?_⟩) hHeld ?_
  rotate_left
  · (intro w hSw; (try dsimp only at hSw); (try unfold SO at hSw); go_simp); try with_reducible rfl
  try simp only [Act.put, List.setIfInBounds_toArray, List.set_cons_zero, List.set_cons_succ]
  refine wpAnyH_done (by kernel_rfl) ?_ _
  clear hHeld HTA HT0 HT1
  have HTP := hide (TP.mk HT2.out HRW.out)
  clear HT2 HRW
  go_wp2_with fail
  go_loopw [40] (fun i W => ∃ j : Nat, j ≤ 2 ∧ i = .int .i64 j ∧ TP w W w.heap.size (tagC k l s p n) pb v1.heap.size (row10 k l s p n tk tl tp tn)) (fun i _ => 2 - (intOf i).toNat)
  case atStart => exact ⟨0, by omega, rfl, HTP.out⟩
  case round =>
    clear HTP
    obtain ⟨j, hj, rfl, hT⟩ := hrel
    generalize v1.heap.size = RR at *
    have HTP := hide hT
    clear hT
    by_cases hlt : j < 2
    · obtain ⟨a, b, c, d, ha, c0, c1, c2, c3, c4⟩ := row10_at HTP.out.row j hlt ⟨k0, k1⟩ htk
      have rb := heap_lt HTP.out.row
      have HF := hide (fun W h => frame_any pb 0 a b s c d s0 s1 D (by omega) W h)
      have HRF := hide (fun W => rframe_any a b s c d s0 s1 D (by omega) W)
      have HOF := hide (fun W => of_tag a b s c d W)
      have HRI := hide (fun W => tright_any a b s c d W)
      have HRR := hide (fun W => rright_any a b s c d W)
      have hFl := frL_length a b s c d D
      generalize frL a b s c d D = FR at *
      generalize frE a b c d = fe at *
      generalize decide (TagOk a b c d) = okb at *
      have hFs := bs_size FR
      have HY0 := hide (HTP.out.alloc (.cells (tagC a b s c d) 24))
      have HG0 := hide (heap_new wr (.cells (tagC a b s c d) 24))
      go_wp2_with fail
      refine (HOF.out _).mono ?_
      rintro e w2 ⟨rfl, hb⟩
      have HY2 := hide (HY0.out.kept hb)
      have HG2 := hide ((hb.block _ (heap_lt HG0.out)).trans HG0.out)
      clear hb HY0 HG0 c0 c1 c2 c3 c4 rb HTP
      generalize wr.heap.size = T9 at *
      go_wp2_with fail
      refine (HF.out _ HY2.out.bas.tab).mono ?_
      rintro e w3 ⟨rfl, hb⟩
      have HY3 := hide (HY2.out.kept hb)
      have HG3 := hide ((hb.block _ (heap_lt HG2.out)).trans HG2.out)
      clear hb HY2 HG2 HF
      obtain ⟨⟨d0, d1, d2, d3, d4⟩, -, dl⟩ := tagC_cells HG3.out
      go_wp2_with fail
      refine (HRF.out _).mono ?_
      rintro e w4 ⟨rfl, hb⟩
      have HY := hide (HY3.out.kept hb).drew
      have HG := hide (show w4.drew.heap[T9]? = some (.cells (tagC a b s c d) 24 (0, 0)) from (hb.block _ (heap_lt HG3.out)).trans HG3.out)
      clear hb HY3 HG3 HRF d0 d1 d2 d3 d4 dl
      go_upto_region 8 with (fail)
      refine wp_region_held_drew (S := (SO T9 a b s c d)) (by kernel_rfl) (SO.of HG.out) (fun hHeld => ?_)
      generalize World.drew _ = v0 at *
      refine wpAnyH_take (i := 0) (oi := { dst := some 57, op := Op.move (Operand.tmp 10), type := 9, pos := "law.go:47", after := #[], guard := none }) (v := ?_) rfl (by kernel_rfl) (by kernel_rfl) (by kernel_rfl) (fun _ _ _ h => h) (Or.inl ⟨by kernel_rfl, ?_⟩) hHeld ?_
      rotate_left
      · (intro w hSw; (try dsimp only at hSw); (try unfold SO at hSw); go_simp); try with_reducible rfl
      try simp only [Act.put, List.setIfInBounds_toArray, List.set_cons_zero, List.set_cons_succ]
      refine wpAnyH_take (i := 1) (oi := { dst := some 58, op := Op.move (Operand.tmp 12), type := 9, pos := "law.go:47", after := #[], guard := none }) (v := ?_) rfl (by kernel_rfl) (by kernel_rfl) (by kernel_rfl) (fun _ _ _ h => h) (Or.inl ⟨by kernel_rfl, ?_⟩) hHeld ?_
      rotate_left
      · (intro w hSw; (try dsimp only at hSw); (try unfold SO at hSw); go_simp); try with_reducible rfl
      try simp only [Act.put, List.setIfInBounds_toArray, List.set_cons_zero, List.set_cons_succ]
      refine wpAnyH_take (i := 2) (oi := { dst := some 59, op := Op.binOp BinOp.neq 9 (Operand.tmp 57) (Operand.tmp 58) 9, type := 4, pos := "law.go:47", after := #[{ on := 0, ground := Ground.data }, { on := 1, ground := Ground.data }], guard := none }) (v := ?_) rfl (by kernel_rfl) (by kernel_rfl) (by kernel_rfl) (fun _ _ _ h => h) (Or.inl ⟨by kernel_rfl, ?_⟩) hHeld ?_
      rotate_left
      · (intro w hSw; (try dsimp only at hSw); (try unfold SO at hSw); go_simp); try with_reducible rfl
      try simp only [Act.put, List.setIfInBounds_toArray, List.set_cons_zero, List.set_cons_succ]
      refine wpAnyH_take (i := 3) (oi := { dst := some 60, op := Op.move (Operand.tmp 59), type := 4, pos := "law.go:47", after := #[{ on := 2, ground := Ground.data }], guard := none }) (v := ?_) rfl (by kernel_rfl) (by kernel_rfl) (by kernel_rfl) (fun _ _ _ h => h) (Or.inl ⟨by kernel_rfl, ?_⟩) hHeld ?_
      rotate_left
      · (intro w hSw; (try dsimp only at hSw); (try unfold SO at hSw); go_simp); try with_reducible rfl
      try simp only [Act.put, List.setIfInBounds_toArray, List.set_cons_zero, List.set_cons_succ]
      refine wpAnyH_take (i := 4) (oi := { dst := some 61, op := Op.move (Operand.tmp 11), type := 31, pos := "law.go:47", after := #[{ on := 3, ground := Ground.guard }], guard := some (3, false) }) (v := ?_) rfl (by kernel_rfl) (by kernel_rfl) (by kernel_rfl) (fun _ _ _ h => h) (Or.inl ⟨by kernel_rfl, ?_⟩) hHeld ?_
      rotate_left
      · (intro w hSw; (try dsimp only at hSw); (try unfold SO at hSw); go_simp); try with_reducible rfl
      try simp only [Act.put, List.setIfInBounds_toArray, List.set_cons_zero, List.set_cons_succ]
      refine wpAnyH_take (i := 5) (oi := { dst := some 62, op := Op.move (Operand.tmp 13), type := 3, pos := "law.go:47", after := #[{ on := 3, ground := Ground.guard }], guard := some (3, false) }) (v := ?_) rfl (by kernel_rfl) (by kernel_rfl) (by kernel_rfl) (fun _ _ _ h => h) (Or.inl ⟨by kernel_rfl, ?_⟩) hHeld ?_
      rotate_left
      · (intro w hSw; (try dsimp only at hSw); (try unfold SO at hSw); go_simp); try with_reducible rfl
      try simp only [Act.put, List.setIfInBounds_toArray, List.set_cons_zero, List.set_cons_succ]
      refine wpAnyH_take (i := 6) (oi := { dst := some 63, op := Op.binOp BinOp.neq 3 (Operand.tmp 61) (Operand.tmp 62) 3, type := 4, pos := "law.go:47", after := #[{ on := 4, ground := Ground.data }, { on := 5, ground := Ground.data }, { on := 3, ground := Ground.guard }], guard := some (3, false) }) (v := ?_) rfl (by kernel_rfl) (by kernel_rfl) (by kernel_rfl) (fun _ _ _ h => h) (Or.inl ⟨by kernel_rfl, ?_⟩) hHeld ?_
      rotate_left
      · (intro w hSw; (try dsimp only at hSw); (try unfold SO at hSw); go_simp); try with_reducible rfl
      try simp only [Act.put, List.setIfInBounds_toArray, List.set_cons_zero, List.set_cons_succ]
      refine wpAnyH_take (i := 7) (oi := { dst := some 64, op := Op.pick (Operand.tmp 60) (Operand.const (Value.bool true)) (Operand.tmp 63), type := 4, pos := "law.go:47", after := #[{ on := 3, ground := Ground.data }, { on := 6, ground := Ground.data }], guard := none }) (v := ?_) rfl (by kernel_rfl) (by kernel_rfl) (by kernel_rfl) (fun _ _ _ h => h) (Or.inl ⟨by kernel_rfl, ?_⟩) hHeld ?_
      rotate_left
      · (intro w hSw; (try dsimp only at hSw); (try unfold SO at hSw); go_simp); try with_reducible rfl
      try simp only [Act.put, List.setIfInBounds_toArray, List.set_cons_zero, List.set_cons_succ]
      refine wpAnyH_take (i := 8) (oi := { dst := some 65, op := Op.move (Operand.tmp 64), type := 4, pos := "law.go:47", after := #[{ on := 7, ground := Ground.data }, { on := 3, ground := Ground.chain }], guard := none }) (v := ?_) rfl (by kernel_rfl) (by kernel_rfl) (by kernel_rfl) (fun _ _ _ h => h) (Or.inl ⟨by kernel_rfl, ?_⟩) hHeld ?_
      rotate_left
      · (intro w hSw; (try dsimp only at hSw); (try unfold SO at hSw); go_simp); try with_reducible rfl
      try simp only [Act.put, List.setIfInBounds_toArray, List.set_cons_zero, List.set_cons_succ]
      refine wpAnyH_take (i := 9) (oi := { dst := some 66, op := Op.load 24 (Operand.tmp 9), type := 24, pos := "law.go:47", after := #[{ on := 8, ground := Ground.guard }], guard := some (8, false) }) (v := ?_) rfl (by kernel_rfl) (by kernel_rfl) (by kernel_rfl) (fun _ _ _ h => h) (Or.inl ⟨by kernel_rfl, ?_⟩) hHeld ?_
      rotate_left
      · (intro w hSw; (try dsimp only at hSw); (try unfold SO at hSw); go_simp); try with_reducible rfl
      try simp only [Act.put, List.setIfInBounds_toArray, List.set_cons_zero, List.set_cons_succ]
      refine wpAnyH_take (i := 12) (oi := { dst := some 69, op := Op.load 24 (Operand.tmp 9), type := 24, pos := "law.go:47", after := #[{ on := 8, ground := Ground.guard }], guard := some (8, false) }) (v := ?_) rfl (by kernel_rfl) (by kernel_rfl) (by kernel_rfl) (fun _ _ _ h => h) (Or.inl ⟨by kernel_rfl, ?_⟩) hHeld ?_
      rotate_left
      · (intro w hSw; (try dsimp only at hSw); (try unfold SO at hSw); go_simp); try with_reducible rfl
      try simp only [Act.put, List.setIfInBounds_toArray, List.set_cons_zero, List.set_cons_succ]
      refine wpAnyH_ready (rs := [10]) (by kernel_rfl) (by simp) (AllReadyH.cons (o := { dst := some 67, op := Op.call { callee := Callee.value (Operand.func 10), args := #[Operand.tmp 66], argTypes := #[24] }, type := 37, pos := "law.go:47", after := #[{ on := 9, ground := Ground.data }, { on := 8, ground := Ground.chain }, { on := 8, ground := Ground.guard }], guard := some (8, false) }) rfl (fun K hK => ?_) AllReadyH.nil)
      have hOld := hide hHeld
      clear hHeld
      go_simp
      refine (HOF.out _).mono ?_
      rintro e v1 ⟨rfl, hb⟩
      have HY1 := hide (HY.out.kept hb)
      have HG1 := hide ((hb.block _ (heap_lt HG.out)).trans HG.out)
      clear hb
      (try go_wp2_with fail)
      refine hK.out _ _ (SO.of HG1.out) (fun hHeld => ?_)
      clear hK K hOld
      try simp only [Act.put, List.setIfInBounds_toArray, List.set_cons_zero, List.set_cons_succ]
      refine wpAnyH_ready (rs := [11]) (by kernel_rfl) (by simp) (AllReadyH.cons (o := { dst := some 68, op := Op.call { callee := Callee.value (Operand.func 12), args := #[Operand.tmp 67], argTypes := #[37] }, type := 4, pos := "law.go:47", after := #[{ on := 10, ground := Ground.data }, { on := 10, ground := Ground.chain }, { on := 8, ground := Ground.guard }], guard := some (8, false) }) rfl (fun K hK => ?_) AllReadyH.nil)
      have hOld := hide hHeld
      clear hHeld
      go_simp
      refine (HRI.out _).mono ?_
      rintro e v2 ⟨rfl, hb⟩
      have HY2 := hide (HY1.out.kept hb)
      have HG2 := hide ((hb.block _ (heap_lt HG1.out)).trans HG1.out)
      clear hb
      (try go_wp2_with fail)
      refine hK.out _ _ (SO.of HG2.out) (fun hHeld => ?_)
      clear hK K hOld
      try simp only [Act.put, List.setIfInBounds_toArray, List.set_cons_zero, List.set_cons_succ]
      refine wpAnyH_ready (rs := [13]) (by kernel_rfl) (by simp) (AllReadyH.cons (o := { dst := some 70, op := Op.call { callee := Callee.value (Operand.func 13), args := #[Operand.tmp 69], argTypes := #[41] }, type := 4, pos := "law.go:47", after := #[{ on := 12, ground := Ground.data }, { on := 11, ground := Ground.chain }, { on := 8, ground := Ground.guard }], guard := some (8, false) }) rfl (fun K hK => ?_) AllReadyH.nil)
      have hOld := hide hHeld
      clear hHeld
      go_simp
      refine (HRR.out _).mono ?_
      rintro e v3 ⟨rfl, hb⟩
      have HY3 := hide (HY2.out.kept hb)
      have HG3 := hide ((hb.block _ (heap_lt HG2.out)).trans HG2.out)
      clear hb
      (try go_wp2_with fail)
      refine hK.out _ _ (SO.of HG3.out) (fun hHeld => ?_)
      clear hK K hOld
      try simp only [Act.put, List.setIfInBounds_toArray, List.set_cons_zero, List.set_cons_succ]
      refine wpAnyH_take (i := 14) (oi := { dst := some 71, op := Op.binOp BinOp.neq 4 (Operand.tmp 68) (Operand.tmp 70) 4, type := 4, pos := "law.go:47", after := #[{ on := 11, ground := Ground.data }, { on := 13, ground := Ground.data }, { on := 8, ground := Ground.guard }], guard := some (8, false) }) (v := ?_) rfl (by kernel_rfl) (by kernel_rfl) (by kernel_rfl) (fun _ _ _ h => h) (Or.inl ⟨by kernel_rfl, ?_⟩) hHeld ?_
      rotate_left
      · (intro w hSw; (try dsimp only at hSw); (try unfold SO at hSw); go_simp); try with_reducible rfl
      try simp only [Act.put, List.setIfInBounds_toArray, List.set_cons_zero, List.set_cons_succ]
      refine wpAnyH_take (i := 15) (oi := { dst := some 72, op := Op.pick (Operand.tmp 65) (Operand.const (Value.bool true)) (Operand.tmp 71), type := 4, pos := "law.go:47", after := #[{ on := 8, ground := Ground.data }, { on := 14, ground := Ground.data }], guard := none }) (v := ?_) rfl (by kernel_rfl) (by kernel_rfl) (by kernel_rfl) (fun _ _ _ h => h) (Or.inl ⟨by kernel_rfl, ?_⟩) hHeld ?_
      rotate_left
      · (intro w hSw; (try dsimp only at hSw); (try unfold SO at hSw); go_simp); try with_reducible rfl
      try simp only [Act.put, List.setIfInBounds_toArray, List.set_cons_zero, List.set_cons_succ]
      refine wpAnyH_done (by kernel_rfl) ?_ _
      clear hHeld HY HY1 HY2 HG HG1 HG2 HG3 HOF HRI HRR
      obtain ⟨M, hM, hMl⟩ : ∃ M : List UInt8, (bs FR ++ bs B).extract 0 (min ((FR.length : Int) + (B.length : Int)) 32).toNat = bs M ∧ M.length ≤ 1000 := by
        refine ⟨(FR ++ B).take (min ((FR.length : Int) + (B.length : Int)) 32).toNat, ?_, ?_⟩
        · rw [bs_append, bs_to]
        · rw [List.length_take]; omega
      have hFB : (bs FR ++ bs B).size = FR.length + B.length := by rw [ByteArray.size_append, hFs, hBs]
      have g1 : (min ((FR.length : Int) + (B.length : Int)) 32) ≤ (FR.length : Int) + (B.length : Int) := by omega
      have g2 : 0 ≤ (min ((FR.length : Int) + (B.length : Int)) 32) := by omega
      have HYS := hide (HY3.out.alloc (.cells #[.string (bs B), .string (bs FR), .string (bs M)] 9))
      have HRS := hide (show (World.alloc v3 (.cells #[.string (bs B), .string (bs FR), .string (bs M)] 9)).heap[v3.heap.size]? = some (.cells #[.string (bs B), .string (bs FR), .string (bs M)] 9 (0, 0)) from heap_new v3 _)
      clear HY3
      go_wp2_with fail
      clear hM g1 g2 hFB
      generalize v3.heap.size = RS at *
      obtain ⟨wo, hwo⟩ : ∃ wo : World, wo = World.alloc v3 (.cells #[.string (bs B), .string (bs FR), .string (bs M)] 9) := ⟨_, rfl⟩
      rw [← hwo] at HYS HRS
      rw [← hwo]
      clear hwo
      go_loopw [87] (fun i W => ∃ i3 : Nat, i3 ≤ 3 ∧ i = .int .i64 i3 ∧ TP w W w.heap.size (tagC k l s p n) pb RR (row10 k l s p n tk tl tp tn) ∧ W.heap[RS]? = some (.cells #[.string (bs B), .string (bs FR), .string (bs M)] 9 (0, 0))) (fun i _ => 3 - (intOf i).toNat)
      case atStart => exact ⟨0, by omega, rfl, HYS.out, HRS.out⟩
      case round =>
        clear HYS HRS
        obtain ⟨i3, hi3, rfl, hT, hR⟩ := hrel
        have HTP := hide hT
        have HRS := hide hR
        clear hT hR
        by_cases hlt3 : i3 < 3
        · obtain ⟨L, hL, cL⟩ := row3_at HRS.out i3 hlt3 (by omega) (by omega) hMl
          have rbl := heap_lt HRS.out
          obtain ⟨q0, q1, q2, q3, q4, hv⟩ := parseV_is D L
          have HPA := hide (fun W h => parse_any pb 0 D L (by omega) (by omega) W h)
          have HRP := hide (fun W => rparse_any D L (by omega) (by omega) W)
          rw [hv] at HPA HRP
          generalize parseE D L = pe at *
          have HOV := hide (fun W => of_tag q0 q1 q2 q3 q4 W)
          clear hv
          go_wp2_with fail
          refine (HPA.out _ HTP.out.bas.tab).mono ?_
          rintro e u2 ⟨rfl, hb⟩
          have HZ2 := hide ((HTP.out.kept hb).alloc (.cells (tagC q0 q1 q2 q3 q4) 37))
          have HS2 := hide ((heap_old u2 (.cells (tagC q0 q1 q2 q3 q4) 37) _ (Nat.lt_of_lt_of_le (heap_lt HRS.out) hb.size)).trans ((hb.block _ (heap_lt HRS.out)).trans HRS.out))
          have HU2 := hide (heap_new u2 (.cells (tagC q0 q1 q2 q3 q4) 37))
          clear hb HTP HRS HPA cL rbl
          go_wp2_with fail
          refine (HRP.out _).mono ?_
          rintro e u3 ⟨rfl, hb⟩
          have HZ3 := hide ((HZ2.out.kept hb).alloc (.cells (tagC q0 q1 q2 q3 q4) 41))
          have HS3 := hide ((heap_old u3 (.cells (tagC q0 q1 q2 q3 q4) 41) _ (Nat.lt_of_lt_of_le (heap_lt HS2.out) hb.size)).trans ((hb.block _ (heap_lt HS2.out)).trans HS2.out))
          have HU3 := hide ((heap_old u3 (.cells (tagC q0 q1 q2 q3 q4) 41) _ (Nat.lt_of_lt_of_le (heap_lt HU2.out) hb.size)).trans ((hb.block _ (heap_lt HU2.out)).trans HU2.out))
          have HV3 := hide (heap_new u3 (.cells (tagC q0 q1 q2 q3 q4) 41))
          clear hb HZ2 HS2 HU2 HRP
          generalize u2.heap.size = U16 at *
          have hneq : ∀ W, (binOp .neq 37 (.agg #[.int .u8 q0, .int .i64 q1, .int .u64 q2, .int .i64 q3, .int .i64 q4]) (.agg #[.int .u8 q0, .int .i64 q1, .int .u64 q2, .int .i64 q3, .int .i64 q4])).run Try.prog W = .ok (.bool false) W := fun W => by rw [neq_tag]; simp
          have hgu := guard_tag .neq
          go_upto_region 15 with (fail)
          generalize u3.heap.size = U18 at *
          obtain ⟨u4, hu4⟩ : ∃ u4 : World, u4 = World.alloc u3 (.cells (tagC q0 q1 q2 q3 q4) 41) := ⟨_, rfl⟩
          rw [← hu4] at HZ3 HS3 HU3 HV3
          rw [show World.alloc u3 (.cells #[.int .u8 q0, .int .i64 q1, .int .u64 q2, .int .i64 q3, .int .i64 q4] 41) = u4 from hu4.symm]
          clear hu4
          have HZ := hide HZ3.out.drew
          have HS := hide (show u4.drew.heap[RS]? = some (.cells #[.string (bs B), .string (bs FR), .string (bs M)] 9 (0, 0)) from HS3.out)
          have HU := hide (show u4.drew.heap[U16]? = some (.cells (tagC q0 q1 q2 q3 q4) 37 (0, 0)) from HU3.out)
          have HV := hide (show u4.drew.heap[U18]? = some (.cells (tagC q0 q1 q2 q3 q4) 41 (0, 0)) from HV3.out)
          clear HZ3 HS3 HU3 HV3
          refine wp_region_held_drew (S := (SO2 U16 q0 q1 q2 q3 q4 U18 q0 q1 q2 q3 q4)) (by kernel_rfl) (⟨SO.of HU.out, SO.of HV.out⟩) (fun hHeld => ?_)
          generalize u4.drew = u0 at *
          refine wpAnyH_take (i := 0) (oi := { dst := some 103, op := Op.move (Operand.tmp 17), type := 31, pos := "law.go:53", after := #[], guard := none }) (v := ?_) rfl (by kernel_rfl) (by kernel_rfl) (by kernel_rfl) (fun _ _ _ h => h) (Or.inl ⟨by kernel_rfl, ?_⟩) hHeld ?_
          rotate_left
          · (intro w hSw; (try dsimp only at hSw); (try unfold SO2 SO at hSw); go_simp); try with_reducible rfl
          try simp only [Act.put, List.setIfInBounds_toArray, List.set_cons_zero, List.set_cons_succ]
          refine wpAnyH_take (i := 1) (oi := { dst := some 104, op := Op.move (Operand.tmp 19), type := 3, pos := "law.go:53", after := #[], guard := none }) (v := ?_) rfl (by kernel_rfl) (by kernel_rfl) (by kernel_rfl) (fun _ _ _ h => h) (Or.inl ⟨by kernel_rfl, ?_⟩) hHeld ?_
          rotate_left
          · (intro w hSw; (try dsimp only at hSw); (try unfold SO2 SO at hSw); go_simp); try with_reducible rfl
          try simp only [Act.put, List.setIfInBounds_toArray, List.set_cons_zero, List.set_cons_succ]
          refine wpAnyH_take (i := 2) (oi := { dst := some 105, op := Op.binOp BinOp.neq 3 (Operand.tmp 103) (Operand.tmp 104) 3, type := 4, pos := "law.go:53", after := #[{ on := 0, ground := Ground.data }, { on := 1, ground := Ground.data }], guard := none }) (v := ?_) rfl (by kernel_rfl) (by kernel_rfl) (by kernel_rfl) (fun _ _ _ h => h) (Or.inl ⟨by kernel_rfl, ?_⟩) hHeld ?_
          rotate_left
          · (intro w hSw; (try dsimp only at hSw); (try unfold SO2 SO at hSw); go_simp); try with_reducible rfl
          try simp only [Act.put, List.setIfInBounds_toArray, List.set_cons_zero, List.set_cons_succ]
          refine wpAnyH_take (i := 3) (oi := { dst := some 106, op := Op.move (Operand.tmp 105), type := 4, pos := "law.go:53", after := #[{ on := 2, ground := Ground.data }], guard := none }) (v := ?_) rfl (by kernel_rfl) (by kernel_rfl) (by kernel_rfl) (fun _ _ _ h => h) (Or.inl ⟨by kernel_rfl, ?_⟩) hHeld ?_
          rotate_left
          · (intro w hSw; (try dsimp only at hSw); (try unfold SO2 SO at hSw); go_simp); try with_reducible rfl
          try simp only [Act.put, List.setIfInBounds_toArray, List.set_cons_zero, List.set_cons_succ]
          refine wpAnyH_take (i := 4) (oi := { dst := some 107, op := Op.load 37 (Operand.tmp 16), type := 37, pos := "law.go:53", after := #[{ on := 3, ground := Ground.guard }], guard := some (3, false) }) (v := ?_) rfl (by kernel_rfl) (by kernel_rfl) (by kernel_rfl) (fun _ _ _ h => h) (Or.inl ⟨by kernel_rfl, ?_⟩) hHeld ?_
          rotate_left
          · (intro w hSw; (try dsimp only at hSw); (try unfold SO2 SO at hSw); go_simp); try with_reducible rfl
          try simp only [Act.put, List.setIfInBounds_toArray, List.set_cons_zero, List.set_cons_succ]
          refine wpAnyH_take (i := 5) (oi := { dst := some 108, op := Op.load 41 (Operand.tmp 18), type := 41, pos := "law.go:53", after := #[{ on := 3, ground := Ground.guard }], guard := some (3, false) }) (v := ?_) rfl (by kernel_rfl) (by kernel_rfl) (by kernel_rfl) (fun _ _ _ h => h) (Or.inl ⟨by kernel_rfl, ?_⟩) hHeld ?_
          rotate_left
          · (intro w hSw; (try dsimp only at hSw); (try unfold SO2 SO at hSw); go_simp); try with_reducible rfl
          try simp only [Act.put, List.setIfInBounds_toArray, List.set_cons_zero, List.set_cons_succ]
          refine wpAnyH_ready (rs := [6]) (by kernel_rfl) (by simp) (AllReadyH.cons (o := { dst := some 109, op := Op.call { callee := Callee.value (Operand.func 10), args := #[Operand.tmp 108], argTypes := #[24] }, type := 37, pos := "law.go:53", after := #[{ on := 5, ground := Ground.data }, { on := 3, ground := Ground.chain }, { on := 3, ground := Ground.guard }], guard := some (3, false) }) rfl (fun K hK => ?_) AllReadyH.nil)
          have hOld := hide hHeld
          clear hHeld
          go_simp
          refine (HOV.out _).mono ?_
          rintro e u1 ⟨rfl, hb⟩
          have HZ1 := hide (HZ.out.kept hb)
          have HS1 := hide ((hb.block _ (heap_lt HS.out)).trans HS.out)
          have HU1 := hide ((hb.block _ (heap_lt HU.out)).trans HU.out)
          have HV1 := hide ((hb.block _ (heap_lt HV.out)).trans HV.out)
          clear hb
          (try go_wp2_with fail)
          refine hK.out _ _ (⟨SO.of HU1.out, SO.of HV1.out⟩) (fun hHeld => ?_)
          clear hK K hOld
          try simp only [Act.put, List.setIfInBounds_toArray, List.set_cons_zero, List.set_cons_succ]
          refine wpAnyH_take (i := 7) (oi := { dst := some 110, op := Op.binOp BinOp.neq 37 (Operand.tmp 107) (Operand.tmp 109) 37, type := 4, pos := "law.go:53", after := #[{ on := 4, ground := Ground.data }, { on := 6, ground := Ground.data }, { on := 3, ground := Ground.guard }], guard := some (3, false) }) (v := ?_) rfl (by kernel_rfl) (by kernel_rfl) (by kernel_rfl) (fun _ _ _ h => h) (Or.inl ⟨by kernel_rfl, ?_⟩) hHeld ?_
          rotate_left
          · (intro w hSw; (try dsimp only at hSw); (try unfold SO2 SO at hSw); go_simp); try with_reducible rfl
          try simp only [Act.put, List.setIfInBounds_toArray, List.set_cons_zero, List.set_cons_succ]
          refine wpAnyH_take (i := 8) (oi := { dst := some 111, op := Op.pick (Operand.tmp 106) (Operand.const (Value.bool true)) (Operand.tmp 110), type := 4, pos := "law.go:53", after := #[{ on := 3, ground := Ground.data }, { on := 7, ground := Ground.data }], guard := none }) (v := ?_) rfl (by kernel_rfl) (by kernel_rfl) (by kernel_rfl) (fun _ _ _ h => h) (Or.inl ⟨by kernel_rfl, ?_⟩) hHeld ?_
          rotate_left
          · (intro w hSw; (try dsimp only at hSw); (try unfold SO2 SO at hSw); go_simp); try with_reducible rfl
          try simp only [Act.put, List.setIfInBounds_toArray, List.set_cons_zero, List.set_cons_succ]
          refine wpAnyH_done (by kernel_rfl) ?_ _
          clear hHeld HU HV HU1 HV1 HZ HS HOV
          go_wp2_with fail
          go_roundw
          case rel => exact ⟨i3 + 1, by omega, by go_num, HZ1.out, HS1.out⟩
          case measure => simp [intOf]; omega
        · obtain rfl : i3 = 3 := by omega
          go_wp2_with fail
          go_roundw
          case rel => exact ⟨j + 1, by omega, by go_num, HTP.out⟩
          case measure => simp [intOf]; omega
    · obtain rfl : j = 2 := by omega
      obtain ⟨⟨d0, d1, d2, d3, d4⟩, -, dl⟩ := tagC_cells HTP.out.bas.one
      have HOF := hide (fun W => of_tag k l s p n W)
      go_wp2_with fail
      refine (HOF.out _).mono ?_
      rintro e w2 ⟨rfl, hb⟩
      have HY2 := hide (HTP.out.kept hb)
      clear hb d0 d1 d2 d3 d4 dl HTP
      go_wp2_with fail
      refine (frame_nil (.int .i64 0) k l s p n (bs D) _).mono ?_
      rintro e w3 ⟨rfl, hb⟩
      have HY3 := hide (HY2.out.kept hb)
      clear hb HY2
      go_wp2_with fail
      refine (parse_nil (bs D) (bs B) _).mono ?_
      rintro e w4 ⟨rfl, hb⟩
      have HY4 := hide ((HY3.out.kept hb).alloc (.cells (tagC 0 0 0 0 0) 37))
      clear hb HY3
      simp only [tagC] at *
      go_wp2_with fail
      refine (wakes6 _).mono ?_
      rintro e w5 ⟨rfl, hb⟩
      have HY5 := hide (HY4.out.kept hb)
      clear hb HY4
      go_wp2_with fail
      go_ret
      exact ⟨rfl, HY5.out.bas.below⟩
theorem tagBytes_all (v : Value) (hv : TagIn v) (data beside : ByteArray) (hd : data.size ≤ 9223372036854775807) (hb : beside.size ≤ 9223372036854775807) (w : World) :
    Calls Try.prog 3 #[v, .string data, .string beside] w fun e w' => e = .returned (.bool true) ∧ Below w.heap.size w w' := by
  obtain ⟨k, l, s, p, n, rfl, ⟨k0, k1⟩, s0, s1⟩ := hv
  exact tagBytes_walk k l s p n k0 k1 s0 s1 data beside hd hb w

set_option maxRecDepth 100000 in
theorem tagBytes_lifted (os : Os) (started : os.Started) (H : Type) (enc : TypeId × Value → H) :
    ReturnsInHanded {} Try.checked os 3 .any (Rows.tagBytesSpec.pre6 enc Try.prog Try.f3 Rows.tagBytesRow.domain false) (Rows.tagBytesSpec.post enc Try.prog Try.f3 false true false false) := by
  refine returnsInHanded_of_change (C := Try.checked) own started (by kernel_rfl) Try.func3
    (ChangeSpec.witness6 (enc := enc) (C := Try.checked) false ⟨#[], #[.agg #[.int .u8 0, .int .i64 0, .int .u64 0, .int .i64 0, .int .i64 0], .string ⟨#[]⟩, .string ⟨#[]⟩], []⟩ 8 (by kernel_rfl) (by kernel_rfl) (by kernel_rfl) (by kernel_rfl)) ?_
  intro W base args ds gs before hval0 hW _ _
  have hval : ∀ (j : Nat) t v, Try.f3.params[j]? = some t → args[j]? = some v → Value.okWide Try.prog W .any base t v := hval0
  have hW' := hW
  obtain ⟨p, q, hA0, hV, rfl, hfz, hnd⟩ := hW
  have hA : DataW.TrodAll enc Try.prog W 0 (fun _ => true) true Try.f3.params.toList args.toList ds p := hA0
  rw [Try.params3] at hA hval
  obtain ⟨v0, vs0, d0, ds0, p0, q0, hargs, rfl, rfl, h0, r0⟩ := trodAll_cons hA
  obtain ⟨v1, vs1, d1, ds1, p1, q1, rfl, rfl, rfl, h1, r1⟩ := trodAll_cons r0
  obtain ⟨v2, vs2, d2, ds2, p2, q2, rfl, rfl, rfl, h2, r2⟩ := trodAll_cons r1
  obtain ⟨rfl, rfl, rfl⟩ := trodAll_nil r2
  obtain rfl : args = #[v0, v1, v2] := by cases args; simp_all
  obtain ⟨rfl, rfl⟩ := trodVars_none hV
  have z0 := open_tag (hval 0 24 v0 rfl rfl) h0
  obtain ⟨data, rfl, rfl, rfl, w1⟩ := ChangeMaps.open_string Try.underlying9 (hval 1 9 v1 rfl rfl) h1
  have z1 : data.size ≤ 9223372036854775807 := w1
  obtain ⟨beside, rfl, rfl, rfl, w2⟩ := ChangeMaps.open_string Try.underlying9 (hval 2 9 v2 rfl rfl) h2
  have z2 : beside.size ≤ 9223372036854775807 := w2
  clear hA0 hval0
  refine (tagBytes_all v0 z0 data beside z1 z2 W).mono fun e W' ⟨he, hb⟩ => ?_
  subst he
  exact ⟨_, rfl, post_law laidOut (of_decide_eq_true (by kernel_rfl)) rfl rfl Try.underlying4 hW' ⟨rfl, rfl, rfl⟩ hb⟩

/-- THE STATEMENT -/
theorem tagBytes_holds : Rows.TagBytesSaid :=
  OpenClaim.holds_of_wide 3 Try.f3 rfl rfl rfl rfl rfl rfl rfl ⟨rfl, rfl, rfl, rfl, rfl⟩ rfl rfl rfl rfl rfl (by kernel_rfl) Try.func3 (by kernel_rfl)
    (of_decide_eq_true (by kernel_rfl)) (by unfold Func.isWrapper; first | (rw [if_pos (by decide +kernel)]; kernel_rfl) | (rw [if_neg (by decide +kernel)]; exact ⟨rfl, rfl⟩))
    (fun os started H enc _ => tagBytes_lifted os started H enc)

end Go.Proofs.Ytoigejgpagoghaa
