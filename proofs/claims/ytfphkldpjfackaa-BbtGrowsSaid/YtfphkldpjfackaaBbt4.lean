/-
  Layer 9, the program's calls: Text by contract; wakes.
-/
import Derived.Test.YtfphkldpjfackaaBbt3
import Derived.Test.YtfphkldpjfackaaShelf
namespace Go.Proofs.Ytfphkldpjfackaa
set_option linter.unusedSimpArgs false
set_option linter.unusedVariables false
open Go.RowKit Go.WideShapes Go.ChangeShapes Go.ChangeAt

theorem bytes_any (n : Nat) (hn : n ≤ 100000) (w : World) : Calls Try.prog 20 #[.int .i64 (n : Int)] w fun e w' => e = .returned (.int .i64 (((n + 7) / 8 : Nat) : Int)) ∧ w = w' := by
  have h : ((n : Int) + 7) / 8 = (((n + 7) / 8 : Nat) : Int) := by omega
  have h0 : (0 : Int) ≤ (n : Int) + 7 := by omega
  have h1 : (n : Int) ≤ 100000 := by omega
  have h2 : (0 : Int) ≤ (n : Int) := by omega
  generalize (n : Int) = N at *
  go_enter Try.func20, Try.ntmps20
  go_wp2_with fail
  go_ret
  exact ⟨ret_int h, rfl⟩
theorem rep_zero : ∀ c : Nat, Lib.repeatL [0] c = List.replicate c 0
  | 0 => rfl
  | c + 1 => by rw [Lib.repeatL, rep_zero c, List.replicate_succ]; rfl
theorem bs_extract (l : List UInt8) (a b : Nat) : (bs l).extract a b = bs ((l.drop a).take (b - a)) := by
  apply ByteArray.ext
  simp [bs, List.extract_eq_take_drop]
theorem bs_to (l : List UInt8) (b : Nat) : (bs l).extract 0 b = bs (l.take b) := by rw [bs_extract]; simp
theorem ret_strs {a b : ByteArray} (h : a = b) : Ending.returned (.string a) = .returned (.string b) := by rw [h]
theorem ret_str2 {a b : ByteArray} {v : Value} (h : a = b) : Ending.returned (.tuple #[.string a, v]) = .returned (.tuple #[.string b, v]) := by rw [h]
/-- a table's bytes -/
def textL (v : Int) (n : Nat) (L : List UInt8) (c : Nat) : List UInt8 := putL v.toNat 8 ++ L.take ((n + 7) / 8) ++ List.replicate c 0
def ST (A : Nat) (v n : Int) (nb : Nat) (S : List UInt8) (W : World) : Prop :=
  W.cell? ⟨A, 0, none⟩ = some (.int .u64 v) ∧ W.cell? ⟨A, 1, none⟩ = some (.int .i64 n) ∧
  (convert 39 9 (.slice (some ⟨A, 2, none⟩) nb 32)).run Try.prog W = .ok (.string (bs (S.take nb))) W
theorem ST.of {A : Nat} {v n : Int} {nb : Nat} {S : List UInt8} {W : World} (hS : S.length = 32) (hnb : nb ≤ 32) (h : W.heap[A]? = some (.cells (bbtC v n S) 26 (0, 0))) : ST A v n nb S W := by
  refine ⟨(cell_of_block h 0).trans (bbtC_0 v n S), (cell_of_block h 1).trans (bbtC_1 v n S), conv_bytes W A 2 nb 32 _ (by rw [List.length_take]; omega) (fun i hi => ?_)⟩
  rw [cell_of_block h, bbtC_at v n S i (by omega)]
  simp [List.getD, List.getElem?_take, hi]
set_option maxRecDepth 100000 in
set_option maxHeartbeats 400000 in
theorem text_ok (v : Int) (v0 : 0 ≤ v) (v1 : v ≤ 18446744073709551615) (n : Nat) (hn1 : 1 ≤ n) (hn : n ≤ 256) (S : List UInt8) (hS : S.length = 32) (c : Nat) (sz : Int) (hsz : sz = 8 + (((n + 7) / 8 : Nat) : Int) + c) (hle : sz ≤ 1024) (w : World) :
    Calls Try.prog 11 #[.agg (bbtC v (n : Int) S), .int .i64 sz] w fun e w' => e = .returned (.tuple #[.string (bs (textL v n S c)), .int .i64 0]) ∧ Below w.heap.size w w' := by
  have HBY := hide (fun W => bytes_any n (by omega) W)
  have HPUT := hide (fun W => put_yes v v0 (by omega) 8 (by omega) (by omega) W)
  rw [show (8 : Int).toNat = 8 from rfl] at HPUT
  have HREP0 := hide (fun W => Try.strings_Repeat (ByteArray.mk #[0]) c W (by omega) (by show 1 * c ≤ _; omega))
  have HREP := hide (show ∀ W, Calls Try.prog 22 #[.string (ByteArray.mk #[0]), .int .i64 (c : Int)] W fun e w' => e = .returned (.string (bs (List.replicate c 0))) ∧ Below W.heap.size W w' from fun W => by
    have h := HREP0.out W
    rw [show (ByteArray.mk #[0]).data.toList = [0] from rfl, rep_zero] at h
    exact h)
  clear HREP0
  have HTX := hide (show bs (textL v n S c) = (bs (putL v.toNat 8) ++ bs (S.take ((n + 7) / 8))) ++ bs (List.replicate c 0) by rw [bs_append, bs_append]; rfl)
  have hnb : (n + 7) / 8 ≤ 32 := by omega
  have hp8 : (bs (putL v.toNat 8)).size = 8 := by rw [bs_size, putL_length]
  have hpn : (bs (S.take ((n + 7) / 8))).size = (n + 7) / 8 := by rw [bs_size, List.length_take]; omega
  have hpc : (bs (List.replicate c (0 : UInt8))).size = c := by rw [bs_size, List.length_replicate]
  have hsub : sz - (8 + (((n + 7) / 8 : Nat) : Int)) = (c : Int) := by omega
  have hlt : ¬ sz < 8 + (((n + 7) / 8 : Nat) : Int) := by omega
  have hgt : ¬ 1024 < sz := by omega
  have hn0 : ((n : Int) == 0) = false := by rw [beq_eq_false_iff_ne]; omega
  have hnbi : (((n + 7) / 8 : Nat) : Int) ≤ 32 := by omega
  have hnb0 : (0 : Int) ≤ (((n + 7) / 8 : Nat) : Int) := by omega
  have hs0 : 0 ≤ sz := by omega
  have hwc : IntKind.i64.wrap (c : Int) = (c : Int) := by rw [IntKind.wrap_i64]; omega
  have hcat1 : ¬ 9223372036854775807 < 8 + (n + 7) / 8 := by omega
  have hcat2 : ¬ 9223372036854775807 < 8 + (n + 7) / 8 + c := by omega
  clear hsz
  generalize (n + 7) / 8 = nb at *
  have hCs := bbtC_size v (n : Int) S hS
  have h1' := bbtC_1 v (n : Int) S
  have HST := hide (fun (W : World) (h : W.heap[w.heap.size]? = some (.cells (bbtC v (n : Int) S) 26 (0, 0))) => ST.of hS hnb h)
  generalize bbtC v (n : Int) S = C at *
  have hCe := el h1' (by omega)
  go_enter Try.func11, Try.ntmps11
  go_wp2_with fail
  refine (HBY.out _).mono ?_
  rintro e w1 ⟨rfl, rfl⟩
  go_upto_region 4 with (fail)
  obtain ⟨W3, hW3⟩ : ∃ W3 : World, W3 = w.alloc (.cells C 26) := ⟨_, rfl⟩
  have HC0 := hide (show W3.drew.heap[w.heap.size]? = some (.cells C 26 (0, 0)) from hW3 ▸ heap_new w _)
  have HB0 := hide (show Below w.heap.size w W3.drew from hW3 ▸ ((Below.refl _ _).alloc (Nat.le_refl _) _).drew)
  rw [← hW3]
  clear hW3 h1' hCe hCs
  refine wp_region_held_drew (S := (ST w.heap.size v (n : Int) nb S)) (by kernel_rfl) (HST.out _ HC0.out) (fun hHeld => ?_)
  generalize W3.drew = v0 at *
  refine wpAnyH_take (i := 0) (oi := { dst := some 23, op := Op.fieldAddr 26 (Operand.tmp 2) 0, type := 0, pos := "bbt.go:89", after := #[], guard := none }) (v := ?_) rfl (by kernel_rfl) (by kernel_rfl) (by kernel_rfl) (fun _ _ _ h => h) (Or.inl ⟨by kernel_rfl, ?_⟩) hHeld ?_
  rotate_left
  · (intro w hSw; (try dsimp only at hSw); (try unfold ST at hSw); go_simp); try with_reducible rfl
  try simp only [Act.put, List.setIfInBounds_toArray, List.set_cons_zero, List.set_cons_succ]
  refine wpAnyH_take (i := 1) (oi := { dst := some 24, op := Op.load 23 (Operand.tmp 23), type := 23, pos := "bbt.go:89", after := #[{ on := 0, ground := Ground.data }], guard := none }) (v := ?_) rfl (by kernel_rfl) (by kernel_rfl) (by kernel_rfl) (fun _ _ _ h => h) (Or.inl ⟨by kernel_rfl, ?_⟩) hHeld ?_
  rotate_left
  · (intro w hSw; (try dsimp only at hSw); (try unfold ST at hSw); go_simp); try with_reducible rfl
  try simp only [Act.put, List.setIfInBounds_toArray, List.set_cons_zero, List.set_cons_succ]
  refine wpAnyH_take (i := 3) (oi := { dst := some 26, op := Op.fieldAddr 26 (Operand.tmp 2) 2, type := 0, pos := "bbt.go:89", after := #[], guard := none }) (v := ?_) rfl (by kernel_rfl) (by kernel_rfl) (by kernel_rfl) (fun _ _ _ h => h) (Or.inl ⟨by kernel_rfl, ?_⟩) hHeld ?_
  rotate_left
  · (intro w hSw; (try dsimp only at hSw); (try unfold ST at hSw); go_simp); try with_reducible rfl
  try simp only [Act.put, List.setIfInBounds_toArray, List.set_cons_zero, List.set_cons_succ]
  refine wpAnyH_take (i := 4) (oi := { dst := some 27, op := Op.fieldAddr 26 (Operand.tmp 2) 1, type := 0, pos := "bbt.go:89", after := #[], guard := none }) (v := ?_) rfl (by kernel_rfl) (by kernel_rfl) (by kernel_rfl) (fun _ _ _ h => h) (Or.inl ⟨by kernel_rfl, ?_⟩) hHeld ?_
  rotate_left
  · (intro w hSw; (try dsimp only at hSw); (try unfold ST at hSw); go_simp); try with_reducible rfl
  try simp only [Act.put, List.setIfInBounds_toArray, List.set_cons_zero, List.set_cons_succ]
  refine wpAnyH_take (i := 5) (oi := { dst := some 28, op := Op.load 3 (Operand.tmp 27), type := 3, pos := "bbt.go:89", after := #[{ on := 4, ground := Ground.data }], guard := none }) (v := ?_) rfl (by kernel_rfl) (by kernel_rfl) (by kernel_rfl) (fun _ _ _ h => h) (Or.inl ⟨by kernel_rfl, ?_⟩) hHeld ?_
  rotate_left
  · (intro w hSw; (try dsimp only at hSw); (try unfold ST at hSw); go_simp); try with_reducible rfl
  try simp only [Act.put, List.setIfInBounds_toArray, List.set_cons_zero, List.set_cons_succ]
  refine wpAnyH_take (i := 10) (oi := { dst := some 33, op := Op.move (Operand.tmp 1), type := 3, pos := "bbt.go:89", after := #[], guard := none }) (v := ?_) rfl (by kernel_rfl) (by kernel_rfl) (by kernel_rfl) (fun _ _ _ h => h) (Or.inl ⟨by kernel_rfl, ?_⟩) hHeld ?_
  rotate_left
  · (intro w hSw; (try dsimp only at hSw); (try unfold ST at hSw); go_simp); try with_reducible rfl
  try simp only [Act.put, List.setIfInBounds_toArray, List.set_cons_zero, List.set_cons_succ]
  refine wpAnyH_take (i := 11) (oi := { dst := some 34, op := Op.move (Operand.tmp 6), type := 3, pos := "bbt.go:89", after := #[], guard := none }) (v := ?_) rfl (by kernel_rfl) (by kernel_rfl) (by kernel_rfl) (fun _ _ _ h => h) (Or.inl ⟨by kernel_rfl, ?_⟩) hHeld ?_
  rotate_left
  · (intro w hSw; (try dsimp only at hSw); (try unfold ST at hSw); go_simp); try with_reducible rfl
  try simp only [Act.put, List.setIfInBounds_toArray, List.set_cons_zero, List.set_cons_succ]
  refine wpAnyH_take (i := 12) (oi := { dst := some 35, op := Op.binOp BinOp.sub 3 (Operand.tmp 33) (Operand.tmp 34) 3, type := 3, pos := "bbt.go:89", after := #[{ on := 10, ground := Ground.data }, { on := 11, ground := Ground.data }], guard := none }) (v := ?_) rfl (by kernel_rfl) (by kernel_rfl) (by kernel_rfl) (fun _ _ _ h => h) (Or.inl ⟨by kernel_rfl, ?_⟩) hHeld ?_
  rotate_left
  · (intro w hSw; (try dsimp only at hSw); (try unfold ST at hSw); go_simp); try with_reducible rfl
  try simp only [Act.put, List.setIfInBounds_toArray, List.set_cons_zero, List.set_cons_succ]
  refine wpAnyH_ready (rs := [2]) (by kernel_rfl) (by simp) (AllReadyH.cons (o := { dst := some 25, op := Op.call { callee := Callee.value (Operand.func 21), args := #[Operand.tmp 24, Operand.const (Value.int IntKind.i64 8)], argTypes := #[23, 3] }, type := 9, pos := "bbt.go:89", after := #[{ on := 1, ground := Ground.data }], guard := none }) rfl (fun K hK => ?_) AllReadyH.nil)
  have hOld := hide hHeld
  clear hHeld
  go_simp
  refine (HPUT.out _).mono ?_
  rintro e v1 ⟨rfl, hb⟩
  have HC1 := hide ((hb.block _ (heap_lt HC0.out)).trans HC0.out)
  have HB1 := hide (below_trans HB0.out hb)
  clear hb
  (try go_wp2_with fail)
  refine hK.out _ _ (HST.out _ HC1.out) (fun hHeld => ?_)
  clear hK K hOld
  try simp only [Act.put, List.setIfInBounds_toArray, List.set_cons_zero, List.set_cons_succ]
  refine wpAnyH_ready (rs := [6]) (by kernel_rfl) (by simp) (AllReadyH.cons (o := { dst := some 29, op := Op.call { callee := Callee.value (Operand.func 20), args := #[Operand.tmp 28], argTypes := #[3] }, type := 3, pos := "bbt.go:89", after := #[{ on := 5, ground := Ground.data }, { on := 2, ground := Ground.chain }], guard := none }) rfl (fun K hK => ?_) AllReadyH.nil)
  have hOld := hide hHeld
  clear hHeld
  go_simp
  refine (HBY.out _).mono ?_
  rintro e v2 ⟨rfl, rfl⟩
  (try go_wp2_with fail)
  refine hK.out _ _ (HST.out _ HC1.out) (fun hHeld => ?_)
  clear hK K hOld
  try simp only [Act.put, List.setIfInBounds_toArray, List.set_cons_zero, List.set_cons_succ]
  refine wpAnyH_take (i := 7) (oi := { dst := some 30, op := Op.slice 24 (Operand.tmp 26) none (some (Operand.tmp 29)) none, type := 39, pos := "bbt.go:89", after := #[{ on := 3, ground := Ground.data }, { on := 6, ground := Ground.data }], guard := none }) (v := ?_) rfl (by kernel_rfl) (by kernel_rfl) (by kernel_rfl) (fun _ _ _ h => h) (Or.inl ⟨by kernel_rfl, ?_⟩) hHeld ?_
  rotate_left
  · (intro w hSw; (try dsimp only at hSw); (try unfold ST at hSw); go_simp); try with_reducible rfl
  try simp only [Act.put, List.setIfInBounds_toArray, List.set_cons_zero, List.set_cons_succ]
  refine wpAnyH_take (i := 8) (oi := { dst := some 31, op := Op.convert 39 9 (Operand.tmp 30), type := 9, pos := "bbt.go:89", after := #[{ on := 7, ground := Ground.data }], guard := none }) (v := ?_) rfl (by kernel_rfl) (by kernel_rfl) (by kernel_rfl) (fun _ _ _ h => h) (Or.inl ⟨by kernel_rfl, ?_⟩) hHeld ?_
  rotate_left
  · (intro w hSw; (try dsimp only at hSw); (try unfold ST at hSw); go_simp); try with_reducible rfl
  try simp only [Act.put, List.setIfInBounds_toArray, List.set_cons_zero, List.set_cons_succ]
  refine wpAnyH_take (i := 9) (oi := { dst := some 32, op := Op.binOp BinOp.add 9 (Operand.tmp 25) (Operand.tmp 31) 9, type := 9, pos := "bbt.go:89", after := #[{ on := 2, ground := Ground.data }, { on := 8, ground := Ground.data }], guard := none }) (v := ?_) rfl (by kernel_rfl) (by kernel_rfl) (by kernel_rfl) (fun _ _ _ h => h) (Or.inl ⟨by kernel_rfl, ?_⟩) hHeld ?_
  rotate_left
  · (intro w hSw; (try dsimp only at hSw); (try unfold ST at hSw); go_simp); try with_reducible rfl
  try simp only [Act.put, List.setIfInBounds_toArray, List.set_cons_zero, List.set_cons_succ]
  refine wpAnyH_ready (rs := [13]) (by kernel_rfl) (by simp) (AllReadyH.cons (o := { dst := some 36, op := Op.call { callee := Callee.value (Operand.func 22), args := #[Operand.const (Value.string { data := #[0] }), Operand.tmp 35], argTypes := #[9, 3] }, type := 9, pos := "bbt.go:89", after := #[{ on := 12, ground := Ground.data }, { on := 6, ground := Ground.chain }], guard := none }) rfl (fun K hK => ?_) AllReadyH.nil)
  have hOld := hide hHeld
  clear hHeld
  go_simp
  refine (HREP.out _).mono ?_
  rintro e v3 ⟨rfl, hb⟩
  have HC3 := hide ((hb.block _ (heap_lt HC1.out)).trans HC1.out)
  have HB3 := hide (below_trans HB1.out hb)
  clear hb
  (try go_wp2_with fail)
  refine hK.out _ _ (HST.out _ HC3.out) (fun hHeld => ?_)
  clear hK K hOld
  try simp only [Act.put, List.setIfInBounds_toArray, List.set_cons_zero, List.set_cons_succ]
  refine wpAnyH_take (i := 14) (oi := { dst := some 37, op := Op.binOp BinOp.add 9 (Operand.tmp 32) (Operand.tmp 36) 9, type := 9, pos := "bbt.go:89", after := #[{ on := 9, ground := Ground.data }, { on := 13, ground := Ground.data }], guard := none }) (v := ?_) rfl (by kernel_rfl) (by kernel_rfl) (by kernel_rfl) (fun _ _ _ h => h) (Or.inl ⟨by kernel_rfl, ?_⟩) hHeld ?_
  rotate_left
  · (intro w hSw; (try dsimp only at hSw); (try unfold ST at hSw); go_simp); try with_reducible rfl
  try simp only [Act.put, List.setIfInBounds_toArray, List.set_cons_zero, List.set_cons_succ]
  refine wpAnyH_take (i := 15) (oi := { dst := some 4, op := Op.assign (Operand.tmp 37), type := 9, pos := "bbt.go:89", after := #[{ on := 14, ground := Ground.data }, { on := 13, ground := Ground.chain }, { on := 0, ground := Ground.phase }, { on := 1, ground := Ground.phase }, { on := 2, ground := Ground.phase }, { on := 3, ground := Ground.phase }, { on := 4, ground := Ground.phase }, { on := 5, ground := Ground.phase }, { on := 6, ground := Ground.phase }, { on := 7, ground := Ground.phase }, { on := 8, ground := Ground.phase }, { on := 9, ground := Ground.phase }, { on := 10, ground := Ground.phase }, { on := 11, ground := Ground.phase }, { on := 12, ground := Ground.phase }, { on := 13, ground := Ground.phase }, { on := 14, ground := Ground.phase }], guard := none }) (v := ?_) rfl (by kernel_rfl) (by kernel_rfl) (by kernel_rfl) (fun _ _ _ h => h) (Or.inl ⟨by kernel_rfl, ?_⟩) hHeld ?_
  rotate_left
  · (intro w hSw; (try dsimp only at hSw); (try unfold ST at hSw); go_simp); try with_reducible rfl
  try simp only [Act.put, List.setIfInBounds_toArray, List.set_cons_zero, List.set_cons_succ]
  refine wpAnyH_take (i := 16) (oi := { dst := some 5, op := Op.assign (Operand.const (Value.int IntKind.i64 0)), type := 27, pos := "bbt.go:89", after := #[{ on := 15, ground := Ground.chain }, { on := 0, ground := Ground.phase }, { on := 1, ground := Ground.phase }, { on := 2, ground := Ground.phase }, { on := 3, ground := Ground.phase }, { on := 4, ground := Ground.phase }, { on := 5, ground := Ground.phase }, { on := 6, ground := Ground.phase }, { on := 7, ground := Ground.phase }, { on := 8, ground := Ground.phase }, { on := 9, ground := Ground.phase }, { on := 10, ground := Ground.phase }, { on := 11, ground := Ground.phase }, { on := 12, ground := Ground.phase }, { on := 13, ground := Ground.phase }, { on := 14, ground := Ground.phase }, { on := 15, ground := Ground.phase }], guard := none }) (v := ?_) rfl (by kernel_rfl) (by kernel_rfl) (by kernel_rfl) (fun _ _ _ h => h) (Or.inl ⟨by kernel_rfl, ?_⟩) hHeld ?_
  rotate_left
  · (intro w hSw; (try dsimp only at hSw); (try unfold ST at hSw); go_simp); try with_reducible rfl
  try simp only [Act.put, List.setIfInBounds_toArray, List.set_cons_zero, List.set_cons_succ]
  refine wpAnyH_done (by kernel_rfl) ?_ _
  clear hHeld HC0 HB0 HC1 HB1 HPUT HREP HBY
  go_wp2_with fail
  go_ret2
  exact ⟨ret_str2 HTX.out.symm, HB3.out⟩
end Go.Proofs.Ytfphkldpjfackaa
