/-
  Layer 6, the program's calls: a tag's bytes but for the check, the check, Frame, by contracts.
-/
import Derived.Test.YtoigejgpagoghaaMTag
namespace Go.Proofs.Ytoigejgpagoghaa
set_option linter.unusedSimpArgs false
set_option linter.unusedVariables false
open Go.RowKit Go.WideShapes Go.ChangeShapes Go.ChangeAt

theorem wrAt_new (w : World) : WrAt (w.alloc (.cells #[.slice none 0 0, .bool false] 78)) w.heap.size w.heap.size [] false :=
  ⟨none, 0, heap_new _ _, ⟨rfl, .inl ⟨rfl, rfl⟩⟩⟩
theorem WrAt.drew {w : World} {B p : Nat} {l : List UInt8} {bad : Bool} (h : WrAt w B p l bad) : WrAt w.drew B p l bad := h
theorem wnumber_ok (B p : Nat) (l : List UInt8) (hl : l.length ≤ 1000) (n : Int) (n0 : 0 ≤ n) (n1 : n ≤ 18446744073709551615) (wd : Int) (w1 : 1 ≤ wd) (w8 : wd ≤ 8) (hf : n.toNat < 256 ^ wd.toNat) (w : World) (h : WrAt w B p l false) (hBp : B ≤ p) :
    Calls Try.prog 33 #[.pointer (some ⟨p, 0, none⟩), .int .u64 n, .int .i64 wd] w fun e w' => e = .returned (.pointer (some ⟨p, 0, none⟩)) ∧ WrAt w' B p (l ++ putL n.toNat wd.toNat) false ∧ Below B w w' := by
  have hx := wnumber_any B p l false (by omega) n n0 n1 wd w h hBp
  have e1 : fitsB n.toNat wd = true := by unfold fitsB; exact decide_eq_true ⟨w1, w8, hf⟩
  have e2 : putS n wd = putL n.toNat wd.toNat := by unfold putS; rw [if_pos ⟨w1, w8⟩]
  rw [e1, e2] at hx
  exact hx
theorem ret_strs {a b : ByteArray} (h : a = b) : Ending.returned (.string a) = .returned (.string b) := by rw [h]
theorem ret_str2 {a b : ByteArray} {v : Value} (h : a = b) : Ending.returned (.tuple #[.string a, v]) = .returned (.tuple #[.string b, v]) := by rw [h]
theorem rep14 : (Lib.repeatL (ByteArray.mk #[0]).data.toList 14) = List.replicate 14 0 := by decide
theorem cell_kept {B : Nat} {w w' : World} {b o : Nat} {v : Value} (hb : Below B w w') (hlt : b < B) (h : w.cell? ⟨b, o, none⟩ = some v) : w'.cell? ⟨b, o, none⟩ = some v := by
  rw [hb.cell (p := ⟨b, o, none⟩) hlt]; exact h
set_option maxRecDepth 100000 in
set_option maxHeartbeats 1000000 in
theorem head_any (k l s p n : Int) (h : TagOk k l p n) (s0 : 0 ≤ s) (s1 : s ≤ 18446744073709551615) (w : World) :
    Calls Try.prog 20 #[.agg #[.int .u8 k, .int .i64 l, .int .u64 s, .int .i64 p, .int .i64 n]] w fun e w' => e = .returned (.string (bs (headZ k l s p n))) ∧ Below w.heap.size w w' := by
  obtain ⟨h1, h2, h3, h4, h5, h6, h7, h8⟩ := h
  have u1 : IntKind.u64.wrap k = k := wraps_u64 _ (by omega) (by omega)
  have u2 : IntKind.u64.wrap l = l := wraps_u64 _ (by omega) (by omega)
  have u4 : IntKind.u64.wrap p = p := wraps_u64 _ (by omega) (by omega)
  have u5 : IntKind.u64.wrap n = n := wraps_u64 _ (by omega) (by omega)
  have HA := hide (heap_new w (.cells #[.int .u8 k, .int .i64 l, .int .u64 s, .int .i64 p, .int .i64 n] 37))
  have HW0 := hide (show WrAt (((w.alloc (.cells #[.int .u8 k, .int .i64 l, .int .u64 s, .int .i64 p, .int .i64 n] 37)).alloc (.cells #[.slice none 0 0, .bool false] 78)).drew) (w.heap.size + 1) (w.heap.size + 1) [] false from by
    have := wrAt_new (w.alloc (.cells #[.int .u8 k, .int .i64 l, .int .u64 s, .int .i64 p, .int .i64 n] 37))
    rwa [show (w.alloc (.cells #[.int .u8 k, .int .i64 l, .int .u64 s, .int .i64 p, .int .i64 n] 37)).heap.size = w.heap.size + 1 by simp] at this)
  have HB0 := hide (show Below w.heap.size w (((w.alloc (.cells #[.int .u8 k, .int .i64 l, .int .u64 s, .int .i64 p, .int .i64 n] 37)).alloc (.cells #[.slice none 0 0, .bool false] 78)).drew) from (((Below.refl _ _).alloc (Nat.le_refl _) _).alloc (by simp) _).drew)
  have HST : Hid ((fun W => W.cell? ⟨w.heap.size, 0, none⟩ = some (.int .u8 k) ∧ W.cell? ⟨w.heap.size, 1, none⟩ = some (.int .i64 l) ∧ W.cell? ⟨w.heap.size, 2, none⟩ = some (.int .u64 s) ∧ W.cell? ⟨w.heap.size, 3, none⟩ = some (.int .i64 p) ∧ W.cell? ⟨w.heap.size, 4, none⟩ = some (.int .i64 n)) (((w.alloc (.cells #[.int .u8 k, .int .i64 l, .int .u64 s, .int .i64 p, .int .i64 n] 37)).alloc (.cells #[.slice none 0 0, .bool false] 78)).drew)) := hide (by
    have hh : (((w.alloc (.cells #[.int .u8 k, .int .i64 l, .int .u64 s, .int .i64 p, .int .i64 n] 37)).alloc (.cells #[.slice none 0 0, .bool false] 78)).drew).heap[w.heap.size]? = some (.cells #[.int .u8 k, .int .i64 l, .int .u64 s, .int .i64 p, .int .i64 n] 37 (0, 0)) := (heap_old (w.alloc (.cells #[.int .u8 k, .int .i64 l, .int .u64 s, .int .i64 p, .int .i64 n] 37)) _ w.heap.size (by simp)).trans HA.out
    exact ⟨by rw [cell_of_block hh]; rfl, by rw [cell_of_block hh]; rfl, by rw [cell_of_block hh]; rfl, by rw [cell_of_block hh]; rfl, by rw [cell_of_block hh]; rfl⟩)
  clear HA
  go_enter Try.func20, Try.ntmps20
  go_upto_region 2 with (fail)
  refine wp_region_held_drew (S := (fun W => W.cell? ⟨w.heap.size, 0, none⟩ = some (.int .u8 k) ∧ W.cell? ⟨w.heap.size, 1, none⟩ = some (.int .i64 l) ∧ W.cell? ⟨w.heap.size, 2, none⟩ = some (.int .u64 s) ∧ W.cell? ⟨w.heap.size, 3, none⟩ = some (.int .i64 p) ∧ W.cell? ⟨w.heap.size, 4, none⟩ = some (.int .i64 n))) (by kernel_rfl) (HST.out) (fun hHeld => ?_)
  refine wpAnyH_take (i := 0) (oi := { dst := some 6, op := Op.fieldAddr 37 (Operand.tmp 1) 0, type := 0, pos := "tag.go:51", after := #[], guard := none }) (v := ?_) rfl (by kernel_rfl) (by kernel_rfl) (by kernel_rfl) (fun _ _ _ h => h) (Or.inl ⟨by kernel_rfl, ?_⟩) hHeld ?_
  rotate_left
  · (intro w hSw; (try dsimp only at hSw); go_simp); try with_reducible rfl
  try simp only [Act.put, List.setIfInBounds_toArray, List.set_cons_zero, List.set_cons_succ]
  refine wpAnyH_take (i := 1) (oi := { dst := some 7, op := Op.load 35 (Operand.tmp 6), type := 35, pos := "tag.go:51", after := #[{ on := 0, ground := Ground.data }], guard := none }) (v := ?_) rfl (by kernel_rfl) (by kernel_rfl) (by kernel_rfl) (fun _ _ _ h => h) (Or.inl ⟨by kernel_rfl, ?_⟩) hHeld ?_
  rotate_left
  · (intro w hSw; (try dsimp only at hSw); go_simp); try with_reducible rfl
  try simp only [Act.put, List.setIfInBounds_toArray, List.set_cons_zero, List.set_cons_succ]
  refine wpAnyH_take (i := 2) (oi := { dst := some 8, op := Op.convert 35 22 (Operand.tmp 7), type := 22, pos := "tag.go:51", after := #[{ on := 1, ground := Ground.data }], guard := none }) (v := ?_) rfl (by kernel_rfl) (by kernel_rfl) (by kernel_rfl) (fun _ _ _ h => h) (Or.inl ⟨by kernel_rfl, ?_⟩) hHeld ?_
  rotate_left
  · (intro w hSw; (try dsimp only at hSw); go_simp); try with_reducible rfl
  try simp only [Act.put, List.setIfInBounds_toArray, List.set_cons_zero, List.set_cons_succ]
  refine wpAnyH_take (i := 4) (oi := { dst := some 10, op := Op.fieldAddr 37 (Operand.tmp 1) 1, type := 0, pos := "tag.go:51", after := #[], guard := none }) (v := ?_) rfl (by kernel_rfl) (by kernel_rfl) (by kernel_rfl) (fun _ _ _ h => h) (Or.inl ⟨by kernel_rfl, ?_⟩) hHeld ?_
  rotate_left
  · (intro w hSw; (try dsimp only at hSw); go_simp); try with_reducible rfl
  try simp only [Act.put, List.setIfInBounds_toArray, List.set_cons_zero, List.set_cons_succ]
  refine wpAnyH_take (i := 5) (oi := { dst := some 11, op := Op.load 3 (Operand.tmp 10), type := 3, pos := "tag.go:51", after := #[{ on := 4, ground := Ground.data }], guard := none }) (v := ?_) rfl (by kernel_rfl) (by kernel_rfl) (by kernel_rfl) (fun _ _ _ h => h) (Or.inl ⟨by kernel_rfl, ?_⟩) hHeld ?_
  rotate_left
  · (intro w hSw; (try dsimp only at hSw); go_simp); try with_reducible rfl
  try simp only [Act.put, List.setIfInBounds_toArray, List.set_cons_zero, List.set_cons_succ]
  refine wpAnyH_take (i := 6) (oi := { dst := some 12, op := Op.convert 3 22 (Operand.tmp 11), type := 22, pos := "tag.go:51", after := #[{ on := 5, ground := Ground.data }], guard := none }) (v := ?_) rfl (by kernel_rfl) (by kernel_rfl) (by kernel_rfl) (fun _ _ _ h => h) (Or.inl ⟨by kernel_rfl, ?_⟩) hHeld ?_
  rotate_left
  · (intro w hSw; (try dsimp only at hSw); go_simp); try with_reducible rfl
  try simp only [Act.put, List.setIfInBounds_toArray, List.set_cons_zero, List.set_cons_succ]
  refine wpAnyH_take (i := 8) (oi := { dst := some 14, op := Op.fieldAddr 37 (Operand.tmp 1) 2, type := 0, pos := "tag.go:51", after := #[], guard := none }) (v := ?_) rfl (by kernel_rfl) (by kernel_rfl) (by kernel_rfl) (fun _ _ _ h => h) (Or.inl ⟨by kernel_rfl, ?_⟩) hHeld ?_
  rotate_left
  · (intro w hSw; (try dsimp only at hSw); go_simp); try with_reducible rfl
  try simp only [Act.put, List.setIfInBounds_toArray, List.set_cons_zero, List.set_cons_succ]
  refine wpAnyH_take (i := 9) (oi := { dst := some 15, op := Op.load 22 (Operand.tmp 14), type := 22, pos := "tag.go:51", after := #[{ on := 8, ground := Ground.data }], guard := none }) (v := ?_) rfl (by kernel_rfl) (by kernel_rfl) (by kernel_rfl) (fun _ _ _ h => h) (Or.inl ⟨by kernel_rfl, ?_⟩) hHeld ?_
  rotate_left
  · (intro w hSw; (try dsimp only at hSw); go_simp); try with_reducible rfl
  try simp only [Act.put, List.setIfInBounds_toArray, List.set_cons_zero, List.set_cons_succ]
  refine wpAnyH_take (i := 11) (oi := { dst := some 17, op := Op.fieldAddr 37 (Operand.tmp 1) 3, type := 0, pos := "tag.go:51", after := #[], guard := none }) (v := ?_) rfl (by kernel_rfl) (by kernel_rfl) (by kernel_rfl) (fun _ _ _ h => h) (Or.inl ⟨by kernel_rfl, ?_⟩) hHeld ?_
  rotate_left
  · (intro w hSw; (try dsimp only at hSw); go_simp); try with_reducible rfl
  try simp only [Act.put, List.setIfInBounds_toArray, List.set_cons_zero, List.set_cons_succ]
  refine wpAnyH_take (i := 12) (oi := { dst := some 18, op := Op.load 3 (Operand.tmp 17), type := 3, pos := "tag.go:51", after := #[{ on := 11, ground := Ground.data }], guard := none }) (v := ?_) rfl (by kernel_rfl) (by kernel_rfl) (by kernel_rfl) (fun _ _ _ h => h) (Or.inl ⟨by kernel_rfl, ?_⟩) hHeld ?_
  rotate_left
  · (intro w hSw; (try dsimp only at hSw); go_simp); try with_reducible rfl
  try simp only [Act.put, List.setIfInBounds_toArray, List.set_cons_zero, List.set_cons_succ]
  refine wpAnyH_take (i := 13) (oi := { dst := some 19, op := Op.convert 3 22 (Operand.tmp 18), type := 22, pos := "tag.go:51", after := #[{ on := 12, ground := Ground.data }], guard := none }) (v := ?_) rfl (by kernel_rfl) (by kernel_rfl) (by kernel_rfl) (fun _ _ _ h => h) (Or.inl ⟨by kernel_rfl, ?_⟩) hHeld ?_
  rotate_left
  · (intro w hSw; (try dsimp only at hSw); go_simp); try with_reducible rfl
  try simp only [Act.put, List.setIfInBounds_toArray, List.set_cons_zero, List.set_cons_succ]
  refine wpAnyH_take (i := 15) (oi := { dst := some 21, op := Op.fieldAddr 37 (Operand.tmp 1) 4, type := 0, pos := "tag.go:51", after := #[], guard := none }) (v := ?_) rfl (by kernel_rfl) (by kernel_rfl) (by kernel_rfl) (fun _ _ _ h => h) (Or.inl ⟨by kernel_rfl, ?_⟩) hHeld ?_
  rotate_left
  · (intro w hSw; (try dsimp only at hSw); go_simp); try with_reducible rfl
  try simp only [Act.put, List.setIfInBounds_toArray, List.set_cons_zero, List.set_cons_succ]
  refine wpAnyH_take (i := 16) (oi := { dst := some 22, op := Op.load 3 (Operand.tmp 21), type := 3, pos := "tag.go:51", after := #[{ on := 15, ground := Ground.data }], guard := none }) (v := ?_) rfl (by kernel_rfl) (by kernel_rfl) (by kernel_rfl) (fun _ _ _ h => h) (Or.inl ⟨by kernel_rfl, ?_⟩) hHeld ?_
  rotate_left
  · (intro w hSw; (try dsimp only at hSw); go_simp); try with_reducible rfl
  try simp only [Act.put, List.setIfInBounds_toArray, List.set_cons_zero, List.set_cons_succ]
  refine wpAnyH_take (i := 17) (oi := { dst := some 23, op := Op.convert 3 22 (Operand.tmp 22), type := 22, pos := "tag.go:51", after := #[{ on := 16, ground := Ground.data }], guard := none }) (v := ?_) rfl (by kernel_rfl) (by kernel_rfl) (by kernel_rfl) (fun _ _ _ h => h) (Or.inl ⟨by kernel_rfl, ?_⟩) hHeld ?_
  rotate_left
  · (intro w hSw; (try dsimp only at hSw); go_simp); try with_reducible rfl
  try simp only [Act.put, List.setIfInBounds_toArray, List.set_cons_zero, List.set_cons_succ]
  refine wpAnyH_ready (rs := [3]) (by kernel_rfl) (by simp) ?_
  refine AllReadyH.cons (o := { dst := some 9, op := Op.call { callee := Callee.value (Operand.func 33), args := #[Operand.tmp 3, Operand.tmp 8, Operand.const (Value.int IntKind.i64 1)], argTypes := #[78, 22, 3] }, type := 79, pos := "tag.go:51", after := #[{ on := 2, ground := Ground.data }], guard := none }) rfl (fun K hK => ?_) AllReadyH.nil
  have hOld := hide hHeld
  clear hHeld
  go_simp
  refine (wnumber_ok (w.heap.size + 1) (w.heap.size + 1) ([]) (by simp) k (by omega) (by omega) 1 (by omega) (by omega) (by rw [show (256 : Nat) ^ (1 : Int).toNat = 256 from by decide]; omega) _ HW0.out (Nat.le_refl _)).mono ?_
  rintro e w1 ⟨rfl, hw, hb⟩
  have HW1 := hide (show WrAt w1 (w.heap.size + 1) (w.heap.size + 1) (putL k.toNat 1) false from hw)
  have HB1 := hide (HB0.out.trans (hb.mono (by omega)))
  have HK := hide (show (fun W => W.cell? ⟨w.heap.size, 0, none⟩ = some (.int .u8 k) ∧ W.cell? ⟨w.heap.size, 1, none⟩ = some (.int .i64 l) ∧ W.cell? ⟨w.heap.size, 2, none⟩ = some (.int .u64 s) ∧ W.cell? ⟨w.heap.size, 3, none⟩ = some (.int .i64 p) ∧ W.cell? ⟨w.heap.size, 4, none⟩ = some (.int .i64 n)) w1 from ⟨cell_kept hb (by omega) hOld.out.1, cell_kept hb (by omega) hOld.out.2.1, cell_kept hb (by omega) hOld.out.2.2.1, cell_kept hb (by omega) hOld.out.2.2.2.1, cell_kept hb (by omega) hOld.out.2.2.2.2⟩)
  clear hw hb HW0 HB0
  (try go_wp2_with fail)
  refine hK.out _ _ (HK.out) (fun hHeld => ?_)
  clear hK K hOld
  try simp only [Act.put, List.setIfInBounds_toArray, List.set_cons_zero, List.set_cons_succ]
  refine wpAnyH_ready (rs := [7]) (by kernel_rfl) (by simp) ?_
  refine AllReadyH.cons (o := { dst := some 13, op := Op.call { callee := Callee.value (Operand.func 33), args := #[Operand.tmp 9, Operand.tmp 12, Operand.const (Value.int IntKind.i64 2)], argTypes := #[79, 22, 3] }, type := 79, pos := "tag.go:51", after := #[{ on := 3, ground := Ground.data }, { on := 6, ground := Ground.data }, { on := 3, ground := Ground.chain }], guard := none }) rfl (fun K hK => ?_) AllReadyH.nil
  have hOld := hide hHeld
  clear hHeld
  go_simp
  refine (wnumber_ok (w.heap.size + 1) (w.heap.size + 1) (putL k.toNat 1) (by simp) l (by omega) (by omega) 2 (by omega) (by omega) (by rw [show (256 : Nat) ^ (2 : Int).toNat = 65536 from by decide]; omega) _ HW1.out (Nat.le_refl _)).mono ?_
  rintro e w2 ⟨rfl, hw, hb⟩
  have HW2 := hide (show WrAt w2 (w.heap.size + 1) (w.heap.size + 1) (putL k.toNat 1 ++ putL l.toNat 2) false from hw)
  have HB2 := hide (HB1.out.trans (hb.mono (by omega)))
  have HK := hide (show (fun W => W.cell? ⟨w.heap.size, 0, none⟩ = some (.int .u8 k) ∧ W.cell? ⟨w.heap.size, 1, none⟩ = some (.int .i64 l) ∧ W.cell? ⟨w.heap.size, 2, none⟩ = some (.int .u64 s) ∧ W.cell? ⟨w.heap.size, 3, none⟩ = some (.int .i64 p) ∧ W.cell? ⟨w.heap.size, 4, none⟩ = some (.int .i64 n)) w2 from ⟨cell_kept hb (by omega) hOld.out.1, cell_kept hb (by omega) hOld.out.2.1, cell_kept hb (by omega) hOld.out.2.2.1, cell_kept hb (by omega) hOld.out.2.2.2.1, cell_kept hb (by omega) hOld.out.2.2.2.2⟩)
  clear hw hb HW1 HB1
  (try go_wp2_with fail)
  refine hK.out _ _ (HK.out) (fun hHeld => ?_)
  clear hK K hOld
  try simp only [Act.put, List.setIfInBounds_toArray, List.set_cons_zero, List.set_cons_succ]
  refine wpAnyH_ready (rs := [10]) (by kernel_rfl) (by simp) ?_
  refine AllReadyH.cons (o := { dst := some 16, op := Op.call { callee := Callee.value (Operand.func 33), args := #[Operand.tmp 13, Operand.tmp 15, Operand.const (Value.int IntKind.i64 8)], argTypes := #[79, 22, 3] }, type := 79, pos := "tag.go:51", after := #[{ on := 7, ground := Ground.data }, { on := 9, ground := Ground.data }, { on := 7, ground := Ground.chain }], guard := none }) rfl (fun K hK => ?_) AllReadyH.nil
  have hOld := hide hHeld
  clear hHeld
  go_simp
  refine (wnumber_ok (w.heap.size + 1) (w.heap.size + 1) (putL k.toNat 1 ++ putL l.toNat 2) (by simp) s (by omega) (by omega) 8 (by omega) (by omega) (by rw [show (256 : Nat) ^ (8 : Int).toNat = 18446744073709551616 from by decide]; omega) _ HW2.out (Nat.le_refl _)).mono ?_
  rintro e w3 ⟨rfl, hw, hb⟩
  have HW3 := hide (show WrAt w3 (w.heap.size + 1) (w.heap.size + 1) (putL k.toNat 1 ++ putL l.toNat 2 ++ putL s.toNat 8) false from hw)
  have HB3 := hide (HB2.out.trans (hb.mono (by omega)))
  have HK := hide (show (fun W => W.cell? ⟨w.heap.size, 0, none⟩ = some (.int .u8 k) ∧ W.cell? ⟨w.heap.size, 1, none⟩ = some (.int .i64 l) ∧ W.cell? ⟨w.heap.size, 2, none⟩ = some (.int .u64 s) ∧ W.cell? ⟨w.heap.size, 3, none⟩ = some (.int .i64 p) ∧ W.cell? ⟨w.heap.size, 4, none⟩ = some (.int .i64 n)) w3 from ⟨cell_kept hb (by omega) hOld.out.1, cell_kept hb (by omega) hOld.out.2.1, cell_kept hb (by omega) hOld.out.2.2.1, cell_kept hb (by omega) hOld.out.2.2.2.1, cell_kept hb (by omega) hOld.out.2.2.2.2⟩)
  clear hw hb HW2 HB2
  (try go_wp2_with fail)
  refine hK.out _ _ (HK.out) (fun hHeld => ?_)
  clear hK K hOld
  try simp only [Act.put, List.setIfInBounds_toArray, List.set_cons_zero, List.set_cons_succ]
  refine wpAnyH_ready (rs := [14]) (by kernel_rfl) (by simp) ?_
  refine AllReadyH.cons (o := { dst := some 20, op := Op.call { callee := Callee.value (Operand.func 33), args := #[Operand.tmp 16, Operand.tmp 19, Operand.const (Value.int IntKind.i64 1)], argTypes := #[79, 22, 3] }, type := 79, pos := "tag.go:51", after := #[{ on := 10, ground := Ground.data }, { on := 13, ground := Ground.data }, { on := 10, ground := Ground.chain }], guard := none }) rfl (fun K hK => ?_) AllReadyH.nil
  have hOld := hide hHeld
  clear hHeld
  go_simp
  refine (wnumber_ok (w.heap.size + 1) (w.heap.size + 1) (putL k.toNat 1 ++ putL l.toNat 2 ++ putL s.toNat 8) (by simp) p (by omega) (by omega) 1 (by omega) (by omega) (by rw [show (256 : Nat) ^ (1 : Int).toNat = 256 from by decide]; omega) _ HW3.out (Nat.le_refl _)).mono ?_
  rintro e w4 ⟨rfl, hw, hb⟩
  have HW4 := hide (show WrAt w4 (w.heap.size + 1) (w.heap.size + 1) (putL k.toNat 1 ++ putL l.toNat 2 ++ putL s.toNat 8 ++ putL p.toNat 1) false from hw)
  have HB4 := hide (HB3.out.trans (hb.mono (by omega)))
  have HK := hide (show (fun W => W.cell? ⟨w.heap.size, 0, none⟩ = some (.int .u8 k) ∧ W.cell? ⟨w.heap.size, 1, none⟩ = some (.int .i64 l) ∧ W.cell? ⟨w.heap.size, 2, none⟩ = some (.int .u64 s) ∧ W.cell? ⟨w.heap.size, 3, none⟩ = some (.int .i64 p) ∧ W.cell? ⟨w.heap.size, 4, none⟩ = some (.int .i64 n)) w4 from ⟨cell_kept hb (by omega) hOld.out.1, cell_kept hb (by omega) hOld.out.2.1, cell_kept hb (by omega) hOld.out.2.2.1, cell_kept hb (by omega) hOld.out.2.2.2.1, cell_kept hb (by omega) hOld.out.2.2.2.2⟩)
  clear hw hb HW3 HB3
  (try go_wp2_with fail)
  refine hK.out _ _ (HK.out) (fun hHeld => ?_)
  clear hK K hOld
  try simp only [Act.put, List.setIfInBounds_toArray, List.set_cons_zero, List.set_cons_succ]
  refine wpAnyH_ready (rs := [18]) (by kernel_rfl) (by simp) ?_
  refine AllReadyH.cons (o := { dst := some 24, op := Op.call { callee := Callee.value (Operand.func 33), args := #[Operand.tmp 20, Operand.tmp 23, Operand.const (Value.int IntKind.i64 1)], argTypes := #[79, 22, 3] }, type := 79, pos := "tag.go:51", after := #[{ on := 14, ground := Ground.data }, { on := 17, ground := Ground.data }, { on := 14, ground := Ground.chain }], guard := none }) rfl (fun K hK => ?_) AllReadyH.nil
  have hOld := hide hHeld
  clear hHeld
  go_simp
  refine (wnumber_ok (w.heap.size + 1) (w.heap.size + 1) (putL k.toNat 1 ++ putL l.toNat 2 ++ putL s.toNat 8 ++ putL p.toNat 1) (by simp) n (by omega) (by omega) 1 (by omega) (by omega) (by rw [show (256 : Nat) ^ (1 : Int).toNat = 256 from by decide]; omega) _ HW4.out (Nat.le_refl _)).mono ?_
  rintro e w5 ⟨rfl, hw, hb⟩
  have HW5 := hide (show WrAt w5 (w.heap.size + 1) (w.heap.size + 1) (putL k.toNat 1 ++ putL l.toNat 2 ++ putL s.toNat 8 ++ putL p.toNat 1 ++ putL n.toNat 1) false from hw)
  have HB5 := hide (HB4.out.trans (hb.mono (by omega)))
  have HK := hide (show (fun W => W.cell? ⟨w.heap.size, 0, none⟩ = some (.int .u8 k) ∧ W.cell? ⟨w.heap.size, 1, none⟩ = some (.int .i64 l) ∧ W.cell? ⟨w.heap.size, 2, none⟩ = some (.int .u64 s) ∧ W.cell? ⟨w.heap.size, 3, none⟩ = some (.int .i64 p) ∧ W.cell? ⟨w.heap.size, 4, none⟩ = some (.int .i64 n)) w5 from ⟨cell_kept hb (by omega) hOld.out.1, cell_kept hb (by omega) hOld.out.2.1, cell_kept hb (by omega) hOld.out.2.2.1, cell_kept hb (by omega) hOld.out.2.2.2.1, cell_kept hb (by omega) hOld.out.2.2.2.2⟩)
  clear hw hb HW4 HB4
  (try go_wp2_with fail)
  refine hK.out _ _ (HK.out) (fun hHeld => ?_)
  clear hK K hOld
  try simp only [Act.put, List.setIfInBounds_toArray, List.set_cons_zero, List.set_cons_succ]
  refine wpAnyH_done (by kernel_rfl) ?_ _
  clear hHeld HK HST
  go_wp2_with fail
  refine (wbytes_any (w.heap.size + 1) (w.heap.size + 1) _ false _ HW5.out).mono ?_
  rintro e w6 ⟨rfl, rfl⟩
  have hfl : (putL k.toNat 1 ++ putL l.toNat 2 ++ putL s.toNat 8 ++ putL p.toNat 1 ++ putL n.toNat 1).length = 13 := by simp
  have HF := hide (show bs (headZ k l s p n) = (ByteArray.mk #[255] ++ bs (putL k.toNat 1 ++ putL l.toNat 2 ++ putL s.toNat 8 ++ putL p.toNat 1 ++ putL n.toNat 1)) ++ bs (List.replicate 14 0) by
    rw [show (ByteArray.mk #[255]) = bs [255] from rfl, bs_append, bs_append]; rfl)
  generalize putL k.toNat 1 ++ putL l.toNat 2 ++ putL s.toNat 8 ++ putL p.toNat 1 ++ putL n.toNat 1 = fl at *
  simp only [Bool.false_eq_true, if_false]
  have hsz : (ByteArray.mk #[255] ++ bs fl).size = 14 := by rw [ByteArray.size_append, bs_size, hfl]; rfl
  have hsf : (bs fl).size = 13 := hfl
  go_wp2_with fail
  have hrep := Try.strings_Repeat (ByteArray.mk #[0]) 14 w5 (by omega) (by decide)
  rw [show ((14 : Nat) : Int) = 14 from rfl] at hrep
  refine hrep.mono ?_
  rintro e w7 ⟨rfl, hb⟩
  rw [rep14]
  go_wp2_with fail
  go_ret
  exact ⟨ret_strs HF.out.symm, below_trans HB5.out hb⟩
theorem sum_any6 (b o : Nat) (d h : List UInt8) (hd : d.length ≤ 9223372036854775807) (hh : h.length ≤ 9223372036854775807) (w : World) (ht : TabAt w b o) :
    Calls Try.prog 21 #[.pointer (some ⟨b, o, none⟩), .string (bs d), .string (bs h)] w fun e w' => e = .returned (.string (bs (sumL d h))) ∧ Below w.heap.size w w' := by
  have H1 := hide (fun W (hT : TabAt W b o) => more_first b o (bs d) (by rw [bs_size]; exact hd) W hT)
  have H2 := hide (fun W (hT : TabAt W b o) => more_mN b o d (bs h) (by rw [bs_size]; exact hh) W hT)
  rw [bs_toList] at H1 H2
  have hm := mN_lt firstS (d ++ h)
  have hc := cN_le (d ++ h)
  have HC := hide (show (4294967295 : Int) - (mN firstS (d ++ h) : Int) = (cN (d ++ h) : Int) by unfold cN; omega)
  have hw := cN_wrap (d ++ h)
  have HS := hide (show sumL d h = putS ((cN (d ++ h) : Nat) : Int) 4 from by unfold putS; rw [if_pos (by omega)]; rfl)
  generalize cN (d ++ h) = c at *
  generalize mN firstS (d ++ h) = m at *
  generalize mN firstS d = m0 at *
  generalize sumL d h = sm at *
  have HT := hide ht
  clear ht
  go_enter Try.func21, Try.ntmps21
  go_wp2_with fail
  refine (first_any _).mono ?_
  rintro e w1 ⟨rfl, rfl⟩
  go_wp2_with fail
  refine (H1.out _ HT.out).mono ?_
  rintro e w2 ⟨rfl, n2, rfl⟩
  go_wp2_with fail
  refine (H2.out _ (tabAt_drewN HT.out _)).mono ?_
  rintro e w3 ⟨rfl, n3, rfl⟩
  go_wp2_with fail
  refine (last_any (m : Int) (by omega) (by omega) _).mono ?_
  rintro e w4 ⟨rfl, rfl⟩
  rw [HC.out]
  go_wp2_with fail
  refine (put_any (c : Int) (by omega) (by omega) 4 _).mono ?_
  rintro e w5 ⟨rfl, hb⟩
  go_wp2_with fail
  go_ret
  exact ⟨ret_strs (by rw [HS.out]), (below_drewN' (Below.refl w.heap.size w) (n2 + n3)).trans hb⟩
theorem frame_nil (v : Value) (k l s p n : Int) (d : ByteArray) (w : World) :
    Calls Try.prog 9 #[.pointer none, .agg #[.int .u8 k, .int .i64 l, .int .u64 s, .int .i64 p, .int .i64 n], .string d] w fun e w' => e = .returned (.tuple #[.string ⟨#[]⟩, .int .i64 1]) ∧ Below w.heap.size w w' := by
  go_enter Try.func9, Try.ntmps9
  go_wp2
  go_ret2
  exact ⟨rfl, (Below.refl _ _).alloc (Nat.le_refl _) _⟩
theorem frame_arg (b o : Nat) (k l s p n : Int) (h : ¬ TagOk k l p n) (d : ByteArray) (w : World) :
    Calls Try.prog 9 #[.pointer (some ⟨b, o, none⟩), .agg #[.int .u8 k, .int .i64 l, .int .u64 s, .int .i64 p, .int .i64 n], .string d] w fun e w' => e = .returned (.tuple #[.string ⟨#[]⟩, .int .i64 2]) ∧ Below w.heap.size w w' := by
  have HR := hide (fun W => tright_no k l s p n h W)
  clear h
  go_enter Try.func9, Try.ntmps9
  go_wp2_with fail
  refine (HR.out _).mono ?_
  rintro e w1 ⟨rfl, hb⟩
  go_wp2_with fail
  go_ret2
  exact ⟨rfl, below_trans ((Below.refl _ _).alloc (Nat.le_refl _) _) hb⟩
set_option maxRecDepth 100000 in
theorem frame_ok (b o : Nat) (k l s p n : Int) (h : TagOk k l p n) (s0 : 0 ≤ s) (s1 : s ≤ 18446744073709551615) (d : List UInt8) (hd : d.length ≤ 9223372036854775807) (w : World) (ht : TabAt w b o) :
    Calls Try.prog 9 #[.pointer (some ⟨b, o, none⟩), .agg #[.int .u8 k, .int .i64 l, .int .u64 s, .int .i64 p, .int .i64 n], .string (bs d)] w fun e w' => e = .returned (.tuple #[.string (bs (frameL k l s p n d)), .int .i64 0]) ∧ Below w.heap.size w w' := by
  have HR := hide (fun W => tright_yes k l s p n h W)
  have HH := hide (fun W => head_any k l s p n h s0 s1 W)
  have hl := headZ_length k l s p n
  have HF := hide (show bs (frameL k l s p n d) = bs (headZ k l s p n) ++ bs (sumL d (headZ k l s p n)) by rw [bs_append]; rfl)
  have hss : (bs (sumL d (headZ k l s p n))).size = 4 := sumL_length _ _
  generalize headZ k l s p n = hz at *
  generalize frameL k l s p n d = fz at *
  have HT := hide (tabAt_kept ht ((Below.refl w.heap.size w).alloc (Nat.le_refl _) (.cells #[.int .u8 k, .int .i64 l, .int .u64 s, .int .i64 p, .int .i64 n] 37)))
  have hbs := bs_size hz
  rw [hl] at hbs
  clear h ht
  go_enter Try.func9, Try.ntmps9
  go_wp2_with fail
  refine (HR.out _).mono ?_
  rintro e w1 ⟨rfl, hb1⟩
  have HT1 := hide (tabAt_kept HT.out hb1)
  have HB1 := hide (below_trans ((Below.refl w.heap.size w).alloc (Nat.le_refl _) (.cells #[.int .u8 k, .int .i64 l, .int .u64 s, .int .i64 p, .int .i64 n] 37)) hb1)
  have c0 : w1.heap[w.heap.size]? = some (.cells #[.int .u8 k, .int .i64 l, .int .u64 s, .int .i64 p, .int .i64 n] 37 (0, 0)) := (hb1.block _ (by simp)).trans (heap_new _ _)
  have d0 := cell_of_block c0 0
  have d1 := cell_of_block c0 1
  have d2 := cell_of_block c0 2
  have d3 := cell_of_block c0 3
  have d4 := cell_of_block c0 4
  simp only [List.getElem?_toArray, List.getElem?_cons_zero, List.getElem?_cons_succ] at d0 d1 d2 d3 d4
  have hlt := heap_lt c0
  clear hb1 c0 HT
  go_wp2_with fail
  refine (HH.out _).mono ?_
  rintro e w2 ⟨rfl, hb2⟩
  have HT2 := hide (tabAt_kept HT1.out hb2)
  have HB2 := hide (below_trans HB1.out hb2)
  clear hb2 HT1 HB1 d0 d1 d2 d3 d4 hlt
  go_wp2_with fail
  refine (sum_any6 b o d hz hd (by omega) _ HT2.out).mono ?_
  rintro e w3 ⟨rfl, hb3⟩
  have HB3 := hide (below_trans HB2.out hb3)
  clear hb3
  go_wp2_with fail
  go_ret2
  exact ⟨ret_str2 HF.out.symm, HB3.out⟩
end Go.Proofs.Ytoigejgpagoghaa
