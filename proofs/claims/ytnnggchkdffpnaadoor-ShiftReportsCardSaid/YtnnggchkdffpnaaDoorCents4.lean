/-
  Layer 3: an amount's text by contract.
-/
import Derived.Test.YtnnggchkdffpnaaDoorCents3
import Derived.Lib.ItoaLen
namespace Go.Proofs.YtnnggchkdffpnaaDoor
set_option linter.unusedSimpArgs false
set_option linter.unusedVariables false
open Go.RowKit Go.WideShapes Go.ChangeShapes Go.ChangeAt

def cRest (A : Nat) : List UInt8 := (Lib.decDigits (A % 100 + 100)).tail
def cText (c : Int) : List UInt8 := (if c < 0 then [45] else []) ++ (Lib.decDigits (c.natAbs / 100) ++ (46 :: cRest c.natAbs))

def sb (l : List UInt8) : ByteArray := ⟨l.toArray⟩
theorem sb_append (a b : List UInt8) : sb a ++ sb b = sb (a ++ b) := by
  apply ByteArray.ext
  simp [sb]
theorem sb_size (l : List UInt8) : (sb l).size = l.length := rfl
theorem sb_from1 (l : List UInt8) (n : Nat) (h : n = l.length) : (sb l).extract 1 n = sb l.tail := by
  apply ByteArray.ext
  subst h
  simp [sb, List.extract_eq_take_drop]
  exact List.take_of_length_le (by simp)
theorem rest_len (A : Nat) : (Lib.decDigits (A % 100 + 100)).length = 3 := by
  have h : A % 100 + 100 < 200 := by omega
  have h2 : 100 ≤ A % 100 + 100 := by omega
  rw [Lib.decDigits_length]
  generalize A % 100 + 100 = n at *
  exact Lib.nDigits_unique 2 n (by omega) (by omega)

set_option maxRecDepth 100000 in
theorem ctext_any (c : Int) (hc : inR c) (w : World) (htab : Tab w) :
    Calls Tryd.prog 21 #[.int .i64 c] w fun e w' => e = .returned (.string (sb (cText c))) ∧ RowKit.Below w.heap.size w w' := by
  obtain ⟨A, hA⟩ : ∃ A, c.natAbs = A := ⟨_, rfl⟩
  have HS := hide (fun W => size_at c A hc hA W)
  have hA2 : A ≤ 9223372036854775808 := by unfold inR at hc; omega
  have hRl := rest_len A
  obtain ⟨R, hR⟩ : ∃ R, Lib.decDigits (A % 100 + 100) = R := ⟨_, rfl⟩
  obtain ⟨D, hD⟩ : ∃ D, Lib.decDigits (A / 100) = D := ⟨_, rfl⟩
  have HF1 := hide (show ∀ W, Tab W → Calls Tryd.prog 28 #[.int .u64 ((A : Int) % 100 + 100), .int .i64 10] W fun e w' => e = .returned (.string (sb R)) ∧ RowKit.Below W.heap.size W w' from fun W hW => hR ▸ fmtU_any (A % 100 + 100) (by omega) W hW)
  have hwr : IntKind.u64.wrap ((A : Int) / 100) = ((A / 100 : Nat) : Int) := by rw [IntKind.wrap_u64]; omega
  have HF2 := hide (show ∀ W, Tab W → Calls Tryd.prog 28 #[.int .u64 (IntKind.u64.wrap ((A : Int) / 100)), .int .i64 10] W fun e w' => e = .returned (.string (sb D)) ∧ RowKit.Below W.heap.size W w' from fun W hW => by rw [hwr]; exact hD ▸ fmtU_any (A / 100) (by omega) W hW)
  rw [hR] at hRl
  have hsz : (sb R).size = 3 := hRl
  have HE := hide (show cText c = (if c < 0 then [45] else []) ++ (D ++ (46 :: R.tail)) by rw [cText, cRest, hA, hR, hD])
  have HX := hide (sb_from1 R 3 hRl.symm)
  have HT := hide htab
  have hD20 : (sb D).size ≤ 20 := by
    rw [← hD, sb_size, Lib.decDigits_length]
    exact Lib.nDigits_le20 _ (by omega)
  have q0 : ¬ 9223372036854775807 < (sb D).size := by omega
  have q1 : ¬ 9223372036854775807 < 1 + (sb D).size := by omega
  have q2 : ¬ 9223372036854775807 < (sb D).size + 1 := by omega
  have q3 : ¬ 9223372036854775807 < 1 + (sb D).size + 1 := by omega
  have q4 : ¬ 9223372036854775807 < (sb D).size + 1 + 2 := by omega
  have q5 : ¬ 9223372036854775807 < 1 + (sb D).size + 1 + 2 := by omega
  clear hA hA2 hR hD hRl hwr hD20
  by_cases h1 : c < 0
  · have HC := hide (show sb (cText c) = ((sb [45] ++ sb D) ++ sb [46]) ++ sb R.tail by rw [HE.out, if_pos h1, sb_append, sb_append, sb_append]; simp)
    clear hc htab HE
    go_enter Tryd.func21, Tryd.ntmps21
    go_wp2_with fail
    refine (HS.out _).mono ?_
    rintro e w' ⟨rfl, rfl⟩
    go_wp2_with fail
    refine (HF1.out _ HT.out).mono ?_
    rintro e w1 ⟨rfl, hb⟩
    have HT1 := hide (tab_below HT.out hb)
    have HB := hide hb
    clear hb
    go_upto_region 6 with (fail)
    refine wp_region_held_drew (S := (fun W => Tab W ∧ RowKit.Below w.heap.size w W)) (by kernel_rfl) (⟨HT1.out, HB.out.drew⟩) (fun hHeld => ?_)
    refine wpAnyH_take (i := 0) (oi := { dst := some 14, op := Op.move (Operand.tmp 3), type := 9, pos := "cents.go:75", after := #[], guard := none }) (v := ?_) rfl (by kernel_rfl) (by kernel_rfl) (by kernel_rfl) (fun _ _ _ h => h) (Or.inl ⟨by kernel_rfl, ?_⟩) hHeld ?_
    rotate_left
    · (intro w hSw; (try dsimp only at hSw); go_simp); try with_reducible rfl
    try simp only [Act.put, List.setIfInBounds_toArray, List.set_cons_zero, List.set_cons_succ]
    refine wpAnyH_take (i := 1) (oi := { dst := some 15, op := Op.move (Operand.tmp 4), type := 72, pos := "cents.go:75", after := #[], guard := none }) (v := ?_) rfl (by kernel_rfl) (by kernel_rfl) (by kernel_rfl) (fun _ _ _ h => h) (Or.inl ⟨by kernel_rfl, ?_⟩) hHeld ?_
    rotate_left
    · (intro w hSw; (try dsimp only at hSw); go_simp); try with_reducible rfl
    try simp only [Act.put, List.setIfInBounds_toArray, List.set_cons_zero, List.set_cons_succ]
    refine wpAnyH_take (i := 2) (oi := { dst := some 16, op := Op.binOp BinOp.quo 72 (Operand.tmp 15) (Operand.const (Value.int IntKind.u64 100)) 72, type := 72, pos := "cents.go:75", after := #[{ on := 1, ground := Ground.data }], guard := none }) (v := ?_) rfl (by kernel_rfl) (by kernel_rfl) (by kernel_rfl) (fun _ _ _ h => h) (Or.inl ⟨by kernel_rfl, ?_⟩) hHeld ?_
    rotate_left
    · (intro w hSw; (try dsimp only at hSw); go_simp); try with_reducible rfl
    try simp only [Act.put, List.setIfInBounds_toArray, List.set_cons_zero, List.set_cons_succ]
    refine wpAnyH_take (i := 6) (oi := { dst := some 20, op := Op.move (Operand.tmp 5), type := 9, pos := "cents.go:75", after := #[], guard := none }) (v := ?_) rfl (by kernel_rfl) (by kernel_rfl) (by kernel_rfl) (fun _ _ _ h => h) (Or.inl ⟨by kernel_rfl, ?_⟩) hHeld ?_
    rotate_left
    · (intro w hSw; (try dsimp only at hSw); go_simp); try with_reducible rfl
    try simp only [Act.put, List.setIfInBounds_toArray, List.set_cons_zero, List.set_cons_succ]
    refine wpAnyH_take (i := 7) (oi := { dst := some 21, op := Op.slice 9 (Operand.tmp 20) (some (Operand.const (Value.int IntKind.i64 1))) none none, type := 9, pos := "cents.go:75", after := #[{ on := 6, ground := Ground.data }], guard := none }) (v := ?_) rfl (by kernel_rfl) (by kernel_rfl) (by kernel_rfl) (fun _ _ _ h => h) (Or.inl ⟨by kernel_rfl, ?_⟩) hHeld ?_
    rotate_left
    · (intro w hSw; (try dsimp only at hSw); go_simp); try with_reducible rfl
    try simp only [Act.put, List.setIfInBounds_toArray, List.set_cons_zero, List.set_cons_succ]
    refine wpAnyH_ready (rs := [3]) (by kernel_rfl) (by simp) (AllReadyH.cons (o := { dst := some 17, op := Op.call { callee := Callee.value (Operand.func 28), args := #[Operand.tmp 16, Operand.const (Value.int IntKind.i64 10)], argTypes := #[72, 3] }, type := 9, pos := "cents.go:75", after := #[{ on := 2, ground := Ground.data }], guard := none }) rfl (fun K hK => ?_) AllReadyH.nil)
    have hOld := hide hHeld
    clear hHeld
    go_simp
    refine (HF2.out _ hOld.out.1).mono ?_
    rintro e w2 ⟨rfl, hb⟩
    (try go_wp2_with fail)
    refine hK.out _ _ (⟨tab_below hOld.out.1 hb, below_trans hOld.out.2 hb⟩) (fun hHeld => ?_)
    clear hK K hOld
    try simp only [Act.put, List.setIfInBounds_toArray, List.set_cons_zero, List.set_cons_succ]
    refine wpAnyH_take (i := 4) (oi := { dst := some 18, op := Op.binOp BinOp.add 9 (Operand.tmp 14) (Operand.tmp 17) 9, type := 9, pos := "cents.go:75", after := #[{ on := 0, ground := Ground.data }, { on := 3, ground := Ground.data }], guard := none }) (v := ?_) rfl (by kernel_rfl) (by kernel_rfl) (by kernel_rfl) (fun _ _ _ h => h) (Or.inl ⟨by kernel_rfl, ?_⟩) hHeld ?_
    rotate_left
    · (intro w hSw; (try dsimp only at hSw); go_simp); try with_reducible rfl
    try simp only [Act.put, List.setIfInBounds_toArray, List.set_cons_zero, List.set_cons_succ]
    refine wpAnyH_take (i := 5) (oi := { dst := some 19, op := Op.binOp BinOp.add 9 (Operand.tmp 18) (Operand.const (Value.string { data := #[46] })) 9, type := 9, pos := "cents.go:75", after := #[{ on := 4, ground := Ground.data }], guard := none }) (v := ?_) rfl (by kernel_rfl) (by kernel_rfl) (by kernel_rfl) (fun _ _ _ h => h) (Or.inl ⟨by kernel_rfl, ?_⟩) hHeld ?_
    rotate_left
    · (intro w hSw; (try dsimp only at hSw); go_simp); try with_reducible rfl
    try simp only [Act.put, List.setIfInBounds_toArray, List.set_cons_zero, List.set_cons_succ]
    refine wpAnyH_take (i := 8) (oi := { dst := some 22, op := Op.binOp BinOp.add 9 (Operand.tmp 19) (Operand.tmp 21) 9, type := 9, pos := "cents.go:75", after := #[{ on := 5, ground := Ground.data }, { on := 7, ground := Ground.data }], guard := none }) (v := ?_) rfl (by kernel_rfl) (by kernel_rfl) (by kernel_rfl) (fun _ _ _ h => h) (Or.inl ⟨by kernel_rfl, ?_⟩) hHeld ?_
    rotate_left
    · (intro w hSw; (try dsimp only at hSw); go_simp); try with_reducible rfl
    try simp only [Act.put, List.setIfInBounds_toArray, List.set_cons_zero, List.set_cons_succ]
    refine wpAnyH_take (i := 9) (oi := { dst := some 2, op := Op.assign (Operand.tmp 22), type := 9, pos := "cents.go:75", after := #[{ on := 8, ground := Ground.data }, { on := 3, ground := Ground.chain }, { on := 0, ground := Ground.phase }, { on := 1, ground := Ground.phase }, { on := 2, ground := Ground.phase }, { on := 3, ground := Ground.phase }, { on := 4, ground := Ground.phase }, { on := 5, ground := Ground.phase }, { on := 6, ground := Ground.phase }, { on := 7, ground := Ground.phase }, { on := 8, ground := Ground.phase }], guard := none }) (v := ?_) rfl (by kernel_rfl) (by kernel_rfl) (by kernel_rfl) (fun _ _ _ h => h) (Or.inl ⟨by kernel_rfl, ?_⟩) hHeld ?_
    rotate_left
    · (intro w hSw; (try dsimp only at hSw); go_simp); try with_reducible rfl
    try simp only [Act.put, List.setIfInBounds_toArray, List.set_cons_zero, List.set_cons_succ]
    refine wpAnyH_done (by kernel_rfl) ?_ _
    have HB2 := hide hHeld.2
    clear hHeld
    go_wp2_with fail
    go_ret
    exact ⟨by rw [HC.out, HX.out]; rfl, HB2.out⟩
  · have HC := hide (show sb (cText c) = ((sb [] ++ sb D) ++ sb [46]) ++ sb R.tail by rw [HE.out, if_neg h1, sb_append, sb_append, sb_append]; simp)
    clear hc htab HE
    go_enter Tryd.func21, Tryd.ntmps21
    go_wp2_with fail
    refine (HS.out _).mono ?_
    rintro e w' ⟨rfl, rfl⟩
    go_wp2_with fail
    refine (HF1.out _ HT.out).mono ?_
    rintro e w1 ⟨rfl, hb⟩
    have HT1 := hide (tab_below HT.out hb)
    have HB := hide hb
    clear hb
    go_upto_region 6 with (fail)
    refine wp_region_held_drew (S := (fun W => Tab W ∧ RowKit.Below w.heap.size w W)) (by kernel_rfl) (⟨HT1.out, HB.out.drew⟩) (fun hHeld => ?_)
    refine wpAnyH_take (i := 0) (oi := { dst := some 14, op := Op.move (Operand.tmp 3), type := 9, pos := "cents.go:75", after := #[], guard := none }) (v := ?_) rfl (by kernel_rfl) (by kernel_rfl) (by kernel_rfl) (fun _ _ _ h => h) (Or.inl ⟨by kernel_rfl, ?_⟩) hHeld ?_
    rotate_left
    · (intro w hSw; (try dsimp only at hSw); go_simp); try with_reducible rfl
    try simp only [Act.put, List.setIfInBounds_toArray, List.set_cons_zero, List.set_cons_succ]
    refine wpAnyH_take (i := 1) (oi := { dst := some 15, op := Op.move (Operand.tmp 4), type := 72, pos := "cents.go:75", after := #[], guard := none }) (v := ?_) rfl (by kernel_rfl) (by kernel_rfl) (by kernel_rfl) (fun _ _ _ h => h) (Or.inl ⟨by kernel_rfl, ?_⟩) hHeld ?_
    rotate_left
    · (intro w hSw; (try dsimp only at hSw); go_simp); try with_reducible rfl
    try simp only [Act.put, List.setIfInBounds_toArray, List.set_cons_zero, List.set_cons_succ]
    refine wpAnyH_take (i := 2) (oi := { dst := some 16, op := Op.binOp BinOp.quo 72 (Operand.tmp 15) (Operand.const (Value.int IntKind.u64 100)) 72, type := 72, pos := "cents.go:75", after := #[{ on := 1, ground := Ground.data }], guard := none }) (v := ?_) rfl (by kernel_rfl) (by kernel_rfl) (by kernel_rfl) (fun _ _ _ h => h) (Or.inl ⟨by kernel_rfl, ?_⟩) hHeld ?_
    rotate_left
    · (intro w hSw; (try dsimp only at hSw); go_simp); try with_reducible rfl
    try simp only [Act.put, List.setIfInBounds_toArray, List.set_cons_zero, List.set_cons_succ]
    refine wpAnyH_take (i := 6) (oi := { dst := some 20, op := Op.move (Operand.tmp 5), type := 9, pos := "cents.go:75", after := #[], guard := none }) (v := ?_) rfl (by kernel_rfl) (by kernel_rfl) (by kernel_rfl) (fun _ _ _ h => h) (Or.inl ⟨by kernel_rfl, ?_⟩) hHeld ?_
    rotate_left
    · (intro w hSw; (try dsimp only at hSw); go_simp); try with_reducible rfl
    try simp only [Act.put, List.setIfInBounds_toArray, List.set_cons_zero, List.set_cons_succ]
    refine wpAnyH_take (i := 7) (oi := { dst := some 21, op := Op.slice 9 (Operand.tmp 20) (some (Operand.const (Value.int IntKind.i64 1))) none none, type := 9, pos := "cents.go:75", after := #[{ on := 6, ground := Ground.data }], guard := none }) (v := ?_) rfl (by kernel_rfl) (by kernel_rfl) (by kernel_rfl) (fun _ _ _ h => h) (Or.inl ⟨by kernel_rfl, ?_⟩) hHeld ?_
    rotate_left
    · (intro w hSw; (try dsimp only at hSw); go_simp); try with_reducible rfl
    try simp only [Act.put, List.setIfInBounds_toArray, List.set_cons_zero, List.set_cons_succ]
    refine wpAnyH_ready (rs := [3]) (by kernel_rfl) (by simp) (AllReadyH.cons (o := { dst := some 17, op := Op.call { callee := Callee.value (Operand.func 28), args := #[Operand.tmp 16, Operand.const (Value.int IntKind.i64 10)], argTypes := #[72, 3] }, type := 9, pos := "cents.go:75", after := #[{ on := 2, ground := Ground.data }], guard := none }) rfl (fun K hK => ?_) AllReadyH.nil)
    have hOld := hide hHeld
    clear hHeld
    go_simp
    refine (HF2.out _ hOld.out.1).mono ?_
    rintro e w2 ⟨rfl, hb⟩
    (try go_wp2_with fail)
    refine hK.out _ _ (⟨tab_below hOld.out.1 hb, below_trans hOld.out.2 hb⟩) (fun hHeld => ?_)
    clear hK K hOld
    try simp only [Act.put, List.setIfInBounds_toArray, List.set_cons_zero, List.set_cons_succ]
    refine wpAnyH_take (i := 4) (oi := { dst := some 18, op := Op.binOp BinOp.add 9 (Operand.tmp 14) (Operand.tmp 17) 9, type := 9, pos := "cents.go:75", after := #[{ on := 0, ground := Ground.data }, { on := 3, ground := Ground.data }], guard := none }) (v := ?_) rfl (by kernel_rfl) (by kernel_rfl) (by kernel_rfl) (fun _ _ _ h => h) (Or.inl ⟨by kernel_rfl, ?_⟩) hHeld ?_
    rotate_left
    · (intro w hSw; (try dsimp only at hSw); go_simp); try with_reducible rfl
    try simp only [Act.put, List.setIfInBounds_toArray, List.set_cons_zero, List.set_cons_succ]
    refine wpAnyH_take (i := 5) (oi := { dst := some 19, op := Op.binOp BinOp.add 9 (Operand.tmp 18) (Operand.const (Value.string { data := #[46] })) 9, type := 9, pos := "cents.go:75", after := #[{ on := 4, ground := Ground.data }], guard := none }) (v := ?_) rfl (by kernel_rfl) (by kernel_rfl) (by kernel_rfl) (fun _ _ _ h => h) (Or.inl ⟨by kernel_rfl, ?_⟩) hHeld ?_
    rotate_left
    · (intro w hSw; (try dsimp only at hSw); go_simp); try with_reducible rfl
    try simp only [Act.put, List.setIfInBounds_toArray, List.set_cons_zero, List.set_cons_succ]
    refine wpAnyH_take (i := 8) (oi := { dst := some 22, op := Op.binOp BinOp.add 9 (Operand.tmp 19) (Operand.tmp 21) 9, type := 9, pos := "cents.go:75", after := #[{ on := 5, ground := Ground.data }, { on := 7, ground := Ground.data }], guard := none }) (v := ?_) rfl (by kernel_rfl) (by kernel_rfl) (by kernel_rfl) (fun _ _ _ h => h) (Or.inl ⟨by kernel_rfl, ?_⟩) hHeld ?_
    rotate_left
    · (intro w hSw; (try dsimp only at hSw); go_simp); try with_reducible rfl
    try simp only [Act.put, List.setIfInBounds_toArray, List.set_cons_zero, List.set_cons_succ]
    refine wpAnyH_take (i := 9) (oi := { dst := some 2, op := Op.assign (Operand.tmp 22), type := 9, pos := "cents.go:75", after := #[{ on := 8, ground := Ground.data }, { on := 3, ground := Ground.chain }, { on := 0, ground := Ground.phase }, { on := 1, ground := Ground.phase }, { on := 2, ground := Ground.phase }, { on := 3, ground := Ground.phase }, { on := 4, ground := Ground.phase }, { on := 5, ground := Ground.phase }, { on := 6, ground := Ground.phase }, { on := 7, ground := Ground.phase }, { on := 8, ground := Ground.phase }], guard := none }) (v := ?_) rfl (by kernel_rfl) (by kernel_rfl) (by kernel_rfl) (fun _ _ _ h => h) (Or.inl ⟨by kernel_rfl, ?_⟩) hHeld ?_
    rotate_left
    · (intro w hSw; (try dsimp only at hSw); go_simp); try with_reducible rfl
    try simp only [Act.put, List.setIfInBounds_toArray, List.set_cons_zero, List.set_cons_succ]
    refine wpAnyH_done (by kernel_rfl) ?_ _
    have HB2 := hide hHeld.2
    clear hHeld
    go_wp2_with fail
    go_ret
    exact ⟨by rw [HC.out, HX.out]; rfl, HB2.out⟩
end Go.Proofs.YtnnggchkdffpnaaDoor
