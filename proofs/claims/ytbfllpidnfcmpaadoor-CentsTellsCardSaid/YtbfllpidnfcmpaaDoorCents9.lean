/-
  Layer 3: Parse of every text by contract.
-/
import Derived.Test.YtbfllpidnfcmpaaDoorMCents
import Derived.Lib.ParseIntBTie
namespace Go.Proofs.YtbfllpidnfcmpaaDoor
set_option linter.unusedSimpArgs false
set_option linter.unusedVariables false
open Go.RowKit Go.WideShapes Go.ChangeShapes Go.ChangeAt

/-- a variable of the library's that holds an error -/
def ErrV (n : String) (w : World) : Prop := ∃ tp p, w.var? Tryd.prog n = some #[.iface tp p]
theorem errV_below {n : String} {w w' : World} (h : ErrV n w) (hb : RowKit.Below w.heap.size w w') : ErrV n w' := by
  obtain ⟨tp, p, h⟩ := h
  refine ⟨tp, p, ?_⟩
  unfold World.var? at *
  cases hg : Program.globalNamed Tryd.prog n with
  | none => simp [hg] at h
  | some g =>
    simp only [hg, Option.bind_some] at h ⊢
    have hlt : g < w.heap.size := by
      rcases Nat.lt_or_ge g w.heap.size with h' | h'
      · exact h'
      · rw [Array.getElem?_eq_none h'] at h; simp at h
    rw [hb.block g hlt]
    exact h
def TabE (w : World) : Prop := Tab w ∧ ErrV "strconv.ErrRange" w ∧ ErrV "strconv.ErrSyntax" w
theorem tabE_below {w w' : World} (h : TabE w) (hb : RowKit.Below w.heap.size w w') : TabE w' := ⟨tab_below h.1 hb, errV_below h.2.1 hb, errV_below h.2.2 hb⟩
theorem parse_short (l : List UInt8) (hl : l.length < 4) (w : World) :
    Calls Tryd.prog 19 #[.string (sb l)] w fun e w' => e = .returned (.tuple #[.int .i64 0, .int .i64 4]) ∧ w = w' := by
  have hsz : (sb l).size = l.length := sb_size l
  have h1 : (l.length : Int) - 3 < 1 := by omega
  have h2 : wrap64 ((l.length : Int) - 3) = (l.length : Int) - 3 := by unfold wrap64; omega
  go_enter Tryd.func19, Tryd.ntmps19
  go_wp2_with fail
  go_ret2
  exact ⟨rfl, rfl⟩

set_option maxRecDepth 100000 in
set_option maxHeartbeats 400000 in
theorem parse_no1 (s : List UInt8) (p : Nat) (hp : 1 ≤ p) (hp2 : p ≤ 1000000) (hl : s.length = p + 3) (v : Int) (hv : inR v) (hne : cText v ≠ s) (hpi : ∀ W, TabE W → Calls Tryd.prog 28 #[.string (sb (noPoint s)), .int .i64 10, .int .i64 64] W fun e w' => e = .returned (.tuple #[.int .i64 v, .nilIface]) ∧ RowKit.Below W.heap.size W w') (w : World) (htab : TabE w) :
    Calls Tryd.prog 19 #[.string (sb s)] w fun e w' => e = .returned (.tuple #[.int .i64 0, .int .i64 4]) ∧ RowKit.Below w.heap.size w w' := by
  have HT := hide htab
  have e1 : (sb s).extract 0 p ++ (sb s).extract (p + 1) (p + 3) = sb (noPoint s) := by
    rw [sb_extract, sb_extract, sb_append, noPoint, hl]
    congr 1
    rw [List.drop_zero, show p + 3 - 3 = p by omega, show p + 3 - 2 = p + 1 by omega, Nat.sub_zero, show p + 3 - (p + 1) = 2 by omega, List.take_of_length_le (l := s.drop (p + 1)) (by simp; omega)]
  rw [← e1] at hpi
  have HPI := hide hpi
  have hsz : (sb s).size = p + 3 := hl
  have h1 : ¬ (p : Int) < 1 := by omega
  have hi1 : (0 : Int) ≤ p := by omega
  have hi2 : (p : Int) ≤ (p : Int) + 3 := by omega
  have hi3 : (p : Int) + 1 ≤ (p : Int) + 3 := by omega
  have hi4 : (0 : Int) ≤ (p : Int) + 1 := by omega
  have htn : ((p : Int) + 1).toNat = p + 1 := by omega
  have hw1 : IntKind.i64.wrap ((p : Int) + 1) = (p : Int) + 1 := by rw [IntKind.wrap_i64]; omega
  have hw2 : wrap64 ((p : Int) + 1) = (p : Int) + 1 := by unfold wrap64; omega
  have hw3 : wrap64 (p : Int) = (p : Int) := by unfold wrap64; omega
  have q0 : ¬ 9223372036854775807 < p + 2 := by omega
  have hnb : ((sb (cText v)).toList == (sb s).toList) = false := by
    rw [ByteArray.toList_eq, ByteArray.toList_eq, beq_eq_false_iff_ne]
    intro h2
    exact hne (by simpa [sb] using h2)
  have HTX := hide (ctext_any v hv)
  clear hne hv
  generalize sb (cText v) = T at *
  clear hl htab hp e1 hpi
  go_enter Tryd.func19, Tryd.ntmps19
  go_upto_region 4 with (fail)
  refine wp_region_held_drew (S := fun W => TabE W ∧ RowKit.Below w.heap.size w W) (by kernel_rfl) (⟨HT.out, (RowKit.Below.refl _ _).drew⟩) (fun hHeld => ?_)
  refine wpAnyH_take (i := 0) (oi := { dst := some 13, op := Op.move (Operand.tmp 0), type := 9, pos := "cents.go:84", after := #[], guard := none }) (v := ?_) rfl (by kernel_rfl) (by kernel_rfl) (by kernel_rfl) (fun _ _ _ h => h) (Or.inl ⟨by kernel_rfl, ?_⟩) hHeld ?_
  rotate_left
  · (intro w hSw; (try dsimp only at hSw); go_simp); try with_reducible rfl
  try simp only [Act.put, List.setIfInBounds_toArray, List.set_cons_zero, List.set_cons_succ]
  refine wpAnyH_take (i := 1) (oi := { dst := some 14, op := Op.move (Operand.tmp 4), type := 3, pos := "cents.go:84", after := #[], guard := none }) (v := ?_) rfl (by kernel_rfl) (by kernel_rfl) (by kernel_rfl) (fun _ _ _ h => h) (Or.inl ⟨by kernel_rfl, ?_⟩) hHeld ?_
  rotate_left
  · (intro w hSw; (try dsimp only at hSw); go_simp); try with_reducible rfl
  try simp only [Act.put, List.setIfInBounds_toArray, List.set_cons_zero, List.set_cons_succ]
  refine wpAnyH_take (i := 2) (oi := { dst := some 15, op := Op.slice 9 (Operand.tmp 13) none (some (Operand.tmp 14)) none, type := 9, pos := "cents.go:84", after := #[{ on := 0, ground := Ground.data }, { on := 1, ground := Ground.data }], guard := none }) (v := ?_) rfl (by kernel_rfl) (by kernel_rfl) (by kernel_rfl) (fun _ _ _ h => h) (Or.inl ⟨by kernel_rfl, ?_⟩) hHeld ?_
  rotate_left
  · (intro w hSw; (try dsimp only at hSw); go_simp); try with_reducible rfl
  try simp only [Act.put, List.setIfInBounds_toArray, List.set_cons_zero, List.set_cons_succ]
  refine wpAnyH_take (i := 3) (oi := { dst := some 16, op := Op.move (Operand.tmp 0), type := 9, pos := "cents.go:84", after := #[], guard := none }) (v := ?_) rfl (by kernel_rfl) (by kernel_rfl) (by kernel_rfl) (fun _ _ _ h => h) (Or.inl ⟨by kernel_rfl, ?_⟩) hHeld ?_
  rotate_left
  · (intro w hSw; (try dsimp only at hSw); go_simp); try with_reducible rfl
  try simp only [Act.put, List.setIfInBounds_toArray, List.set_cons_zero, List.set_cons_succ]
  refine wpAnyH_take (i := 4) (oi := { dst := some 17, op := Op.move (Operand.tmp 4), type := 3, pos := "cents.go:84", after := #[], guard := none }) (v := ?_) rfl (by kernel_rfl) (by kernel_rfl) (by kernel_rfl) (fun _ _ _ h => h) (Or.inl ⟨by kernel_rfl, ?_⟩) hHeld ?_
  rotate_left
  · (intro w hSw; (try dsimp only at hSw); go_simp); try with_reducible rfl
  try simp only [Act.put, List.setIfInBounds_toArray, List.set_cons_zero, List.set_cons_succ]
  refine wpAnyH_take (i := 5) (oi := { dst := some 18, op := Op.binOp BinOp.add 3 (Operand.tmp 17) (Operand.const (Value.int IntKind.i64 1)) 3, type := 3, pos := "cents.go:84", after := #[{ on := 4, ground := Ground.data }], guard := none }) (v := ?_) rfl (by kernel_rfl) (by kernel_rfl) (by kernel_rfl) (fun _ _ _ h => h) (Or.inl ⟨by kernel_rfl, ?_⟩) hHeld ?_
  rotate_left
  · (intro w hSw; (try dsimp only at hSw); go_simp); try with_reducible rfl
  try simp only [Act.put, List.setIfInBounds_toArray, List.set_cons_zero, List.set_cons_succ]
  refine wpAnyH_take (i := 6) (oi := { dst := some 19, op := Op.slice 9 (Operand.tmp 16) (some (Operand.tmp 18)) none none, type := 9, pos := "cents.go:84", after := #[{ on := 3, ground := Ground.data }, { on := 5, ground := Ground.data }], guard := none }) (v := ?_) rfl (by kernel_rfl) (by kernel_rfl) (by kernel_rfl) (fun _ _ _ h => h) (Or.inl ⟨by kernel_rfl, ?_⟩) hHeld ?_
  rotate_left
  · (intro w hSw; (try dsimp only at hSw); go_simp); try with_reducible rfl
  try simp only [Act.put, List.setIfInBounds_toArray, List.set_cons_zero, List.set_cons_succ]
  refine wpAnyH_take (i := 7) (oi := { dst := some 20, op := Op.binOp BinOp.add 9 (Operand.tmp 15) (Operand.tmp 19) 9, type := 9, pos := "cents.go:84", after := #[{ on := 2, ground := Ground.data }, { on := 6, ground := Ground.data }], guard := none }) (v := ?_) rfl (by kernel_rfl) (by kernel_rfl) (by kernel_rfl) (fun _ _ _ h => h) (Or.inl ⟨by kernel_rfl, ?_⟩) hHeld ?_
  rotate_left
  · (intro w hSw; (try dsimp only at hSw); go_simp); try with_reducible rfl
  try simp only [Act.put, List.setIfInBounds_toArray, List.set_cons_zero, List.set_cons_succ]
  refine wpAnyH_ready (rs := [8]) (by kernel_rfl) (by simp) (AllReadyH.cons (o := { dst := some 21, op := Op.call { callee := Callee.value (Operand.func 28), args := #[Operand.tmp 20, Operand.const (Value.int IntKind.i64 10), Operand.const (Value.int IntKind.i64 64)], argTypes := #[9, 3, 3] }, type := 56, pos := "cents.go:84", after := #[{ on := 7, ground := Ground.data }], guard := none }) rfl (fun K hK => ?_) AllReadyH.nil)
  have hOld := hide hHeld
  clear hHeld
  go_simp
  refine (HPI.out _ hOld.out.1).mono ?_
  rintro e w2 ⟨rfl, hb⟩
  (try go_wp2_with fail)
  refine hK.out _ _ (⟨tabE_below hOld.out.1 hb, below_trans hOld.out.2 hb⟩) (fun hHeld => ?_)
  clear hK K hOld
  try simp only [Act.put, List.setIfInBounds_toArray, List.set_cons_zero, List.set_cons_succ]
  refine wpAnyH_take (i := 9) (oi := { dst := some 12, op := Op.move (Operand.tmp 21), type := 56, pos := "cents.go:84", after := #[{ on := 8, ground := Ground.data }], guard := none }) (v := ?_) rfl (by kernel_rfl) (by kernel_rfl) (by kernel_rfl) (fun _ _ _ h => h) (Or.inl ⟨by kernel_rfl, ?_⟩) hHeld ?_
  rotate_left
  · (intro w hSw; (try dsimp only at hSw); go_simp); try with_reducible rfl
  try simp only [Act.put, List.setIfInBounds_toArray, List.set_cons_zero, List.set_cons_succ]
  refine wpAnyH_take (i := 10) (oi := { dst := some 22, op := Op.extract (Operand.tmp 12) 0, type := 2, pos := "cents.go:84", after := #[{ on := 9, ground := Ground.data }], guard := none }) (v := ?_) rfl (by kernel_rfl) (by kernel_rfl) (by kernel_rfl) (fun _ _ _ h => h) (Or.inl ⟨by kernel_rfl, ?_⟩) hHeld ?_
  rotate_left
  · (intro w hSw; (try dsimp only at hSw); go_simp); try with_reducible rfl
  try simp only [Act.put, List.setIfInBounds_toArray, List.set_cons_zero, List.set_cons_succ]
  refine wpAnyH_take (i := 11) (oi := { dst := some 23, op := Op.extract (Operand.tmp 12) 1, type := 55, pos := "cents.go:84", after := #[{ on := 9, ground := Ground.data }, { on := 12, ground := Ground.gcOnly Departure.lateStores }], guard := none }) (v := ?_) rfl (by kernel_rfl) (by kernel_rfl) (by kernel_rfl) (fun _ _ _ h => h) (Or.inl ⟨by kernel_rfl, ?_⟩) hHeld ?_
  rotate_left
  · (intro w hSw; (try dsimp only at hSw); go_simp); try with_reducible rfl
  try simp only [Act.put, List.setIfInBounds_toArray, List.set_cons_zero, List.set_cons_succ]
  refine wpAnyH_take (i := 12) (oi := { dst := some 5, op := Op.assign (Operand.tmp 22), type := 2, pos := "cents.go:84", after := #[{ on := 10, ground := Ground.data }, { on := 8, ground := Ground.chain }, { on := 0, ground := Ground.phase }, { on := 1, ground := Ground.phase }, { on := 2, ground := Ground.phase }, { on := 3, ground := Ground.phase }, { on := 4, ground := Ground.phase }, { on := 5, ground := Ground.phase }, { on := 6, ground := Ground.phase }, { on := 7, ground := Ground.phase }, { on := 8, ground := Ground.phase }, { on := 9, ground := Ground.phase }, { on := 10, ground := Ground.phase }, { on := 11, ground := Ground.textOnly Departure.lateStores }], guard := none }) (v := ?_) rfl (by kernel_rfl) (by kernel_rfl) (by kernel_rfl) (fun _ _ _ h => h) (Or.inl ⟨by kernel_rfl, ?_⟩) hHeld ?_
  rotate_left
  · (intro w hSw; (try dsimp only at hSw); go_simp); try with_reducible rfl
  try simp only [Act.put, List.setIfInBounds_toArray, List.set_cons_zero, List.set_cons_succ]
  refine wpAnyH_take (i := 13) (oi := { dst := some 6, op := Op.assign (Operand.tmp 23), type := 55, pos := "cents.go:84", after := #[{ on := 11, ground := Ground.data }, { on := 12, ground := Ground.chain }, { on := 0, ground := Ground.phase }, { on := 1, ground := Ground.phase }, { on := 2, ground := Ground.phase }, { on := 3, ground := Ground.phase }, { on := 4, ground := Ground.phase }, { on := 5, ground := Ground.phase }, { on := 6, ground := Ground.phase }, { on := 7, ground := Ground.phase }, { on := 8, ground := Ground.phase }, { on := 9, ground := Ground.phase }, { on := 10, ground := Ground.phase }, { on := 11, ground := Ground.phase }, { on := 12, ground := Ground.phase }], guard := none }) (v := ?_) rfl (by kernel_rfl) (by kernel_rfl) (by kernel_rfl) (fun _ _ _ h => h) (Or.inl ⟨by kernel_rfl, ?_⟩) hHeld ?_
  rotate_left
  · (intro w hSw; (try dsimp only at hSw); go_simp); try with_reducible rfl
  try simp only [Act.put, List.setIfInBounds_toArray, List.set_cons_zero, List.set_cons_succ]
  refine wpAnyH_done (by kernel_rfl) ?_ _
  have HT2 := hide hHeld.1
  have HB2 := hide hHeld.2
  clear hHeld
  go_wp2_with fail
  refine (HTX.out _ HT2.out.1).mono ?_
  rintro e w3 ⟨rfl, hb⟩
  have HB3 := hide (below_trans HB2.out hb)
  clear hb
  go_wp2_with fail
  go_ret2
  exact ⟨rfl, HB3.out⟩

set_option maxRecDepth 100000 in
set_option maxHeartbeats 400000 in
theorem parse_no2 (s : List UInt8) (p : Nat) (hp : 1 ≤ p) (hp2 : p ≤ 1000000) (hl : s.length = p + 3) (v : Int) (hpi : ∀ W, TabE W → Calls Tryd.prog 28 #[.string (sb (noPoint s)), .int .i64 10, .int .i64 64] W fun e w' => ∃ N, e = .returned (.tuple #[.int .i64 v, .iface 70 (.pointer (some ⟨N, 0, none⟩))]) ∧ RowKit.Below W.heap.size W w') (w : World) (htab : TabE w) :
    Calls Tryd.prog 19 #[.string (sb s)] w fun e w' => e = .returned (.tuple #[.int .i64 0, .int .i64 4]) ∧ RowKit.Below w.heap.size w w' := by
  have HT := hide htab
  have e1 : (sb s).extract 0 p ++ (sb s).extract (p + 1) (p + 3) = sb (noPoint s) := by
    rw [sb_extract, sb_extract, sb_append, noPoint, hl]
    congr 1
    rw [List.drop_zero, show p + 3 - 3 = p by omega, show p + 3 - 2 = p + 1 by omega, Nat.sub_zero, show p + 3 - (p + 1) = 2 by omega, List.take_of_length_le (l := s.drop (p + 1)) (by simp; omega)]
  rw [← e1] at hpi
  have HPI := hide hpi
  have hsz : (sb s).size = p + 3 := hl
  have h1 : ¬ (p : Int) < 1 := by omega
  have hi1 : (0 : Int) ≤ p := by omega
  have hi2 : (p : Int) ≤ (p : Int) + 3 := by omega
  have hi3 : (p : Int) + 1 ≤ (p : Int) + 3 := by omega
  have hi4 : (0 : Int) ≤ (p : Int) + 1 := by omega
  have htn : ((p : Int) + 1).toNat = p + 1 := by omega
  have hw1 : IntKind.i64.wrap ((p : Int) + 1) = (p : Int) + 1 := by rw [IntKind.wrap_i64]; omega
  have hw2 : wrap64 ((p : Int) + 1) = (p : Int) + 1 := by unfold wrap64; omega
  have hw3 : wrap64 (p : Int) = (p : Int) := by unfold wrap64; omega
  have q0 : ¬ 9223372036854775807 < p + 2 := by omega
  skip
  clear hl htab hp e1 hpi
  go_enter Tryd.func19, Tryd.ntmps19
  go_upto_region 4 with (fail)
  refine wp_region_held_drew (S := fun W => TabE W ∧ RowKit.Below w.heap.size w W) (by kernel_rfl) (⟨HT.out, (RowKit.Below.refl _ _).drew⟩) (fun hHeld => ?_)
  refine wpAnyH_take (i := 0) (oi := { dst := some 13, op := Op.move (Operand.tmp 0), type := 9, pos := "cents.go:84", after := #[], guard := none }) (v := ?_) rfl (by kernel_rfl) (by kernel_rfl) (by kernel_rfl) (fun _ _ _ h => h) (Or.inl ⟨by kernel_rfl, ?_⟩) hHeld ?_
  rotate_left
  · (intro w hSw; (try dsimp only at hSw); go_simp); try with_reducible rfl
  try simp only [Act.put, List.setIfInBounds_toArray, List.set_cons_zero, List.set_cons_succ]
  refine wpAnyH_take (i := 1) (oi := { dst := some 14, op := Op.move (Operand.tmp 4), type := 3, pos := "cents.go:84", after := #[], guard := none }) (v := ?_) rfl (by kernel_rfl) (by kernel_rfl) (by kernel_rfl) (fun _ _ _ h => h) (Or.inl ⟨by kernel_rfl, ?_⟩) hHeld ?_
  rotate_left
  · (intro w hSw; (try dsimp only at hSw); go_simp); try with_reducible rfl
  try simp only [Act.put, List.setIfInBounds_toArray, List.set_cons_zero, List.set_cons_succ]
  refine wpAnyH_take (i := 2) (oi := { dst := some 15, op := Op.slice 9 (Operand.tmp 13) none (some (Operand.tmp 14)) none, type := 9, pos := "cents.go:84", after := #[{ on := 0, ground := Ground.data }, { on := 1, ground := Ground.data }], guard := none }) (v := ?_) rfl (by kernel_rfl) (by kernel_rfl) (by kernel_rfl) (fun _ _ _ h => h) (Or.inl ⟨by kernel_rfl, ?_⟩) hHeld ?_
  rotate_left
  · (intro w hSw; (try dsimp only at hSw); go_simp); try with_reducible rfl
  try simp only [Act.put, List.setIfInBounds_toArray, List.set_cons_zero, List.set_cons_succ]
  refine wpAnyH_take (i := 3) (oi := { dst := some 16, op := Op.move (Operand.tmp 0), type := 9, pos := "cents.go:84", after := #[], guard := none }) (v := ?_) rfl (by kernel_rfl) (by kernel_rfl) (by kernel_rfl) (fun _ _ _ h => h) (Or.inl ⟨by kernel_rfl, ?_⟩) hHeld ?_
  rotate_left
  · (intro w hSw; (try dsimp only at hSw); go_simp); try with_reducible rfl
  try simp only [Act.put, List.setIfInBounds_toArray, List.set_cons_zero, List.set_cons_succ]
  refine wpAnyH_take (i := 4) (oi := { dst := some 17, op := Op.move (Operand.tmp 4), type := 3, pos := "cents.go:84", after := #[], guard := none }) (v := ?_) rfl (by kernel_rfl) (by kernel_rfl) (by kernel_rfl) (fun _ _ _ h => h) (Or.inl ⟨by kernel_rfl, ?_⟩) hHeld ?_
  rotate_left
  · (intro w hSw; (try dsimp only at hSw); go_simp); try with_reducible rfl
  try simp only [Act.put, List.setIfInBounds_toArray, List.set_cons_zero, List.set_cons_succ]
  refine wpAnyH_take (i := 5) (oi := { dst := some 18, op := Op.binOp BinOp.add 3 (Operand.tmp 17) (Operand.const (Value.int IntKind.i64 1)) 3, type := 3, pos := "cents.go:84", after := #[{ on := 4, ground := Ground.data }], guard := none }) (v := ?_) rfl (by kernel_rfl) (by kernel_rfl) (by kernel_rfl) (fun _ _ _ h => h) (Or.inl ⟨by kernel_rfl, ?_⟩) hHeld ?_
  rotate_left
  · (intro w hSw; (try dsimp only at hSw); go_simp); try with_reducible rfl
  try simp only [Act.put, List.setIfInBounds_toArray, List.set_cons_zero, List.set_cons_succ]
  refine wpAnyH_take (i := 6) (oi := { dst := some 19, op := Op.slice 9 (Operand.tmp 16) (some (Operand.tmp 18)) none none, type := 9, pos := "cents.go:84", after := #[{ on := 3, ground := Ground.data }, { on := 5, ground := Ground.data }], guard := none }) (v := ?_) rfl (by kernel_rfl) (by kernel_rfl) (by kernel_rfl) (fun _ _ _ h => h) (Or.inl ⟨by kernel_rfl, ?_⟩) hHeld ?_
  rotate_left
  · (intro w hSw; (try dsimp only at hSw); go_simp); try with_reducible rfl
  try simp only [Act.put, List.setIfInBounds_toArray, List.set_cons_zero, List.set_cons_succ]
  refine wpAnyH_take (i := 7) (oi := { dst := some 20, op := Op.binOp BinOp.add 9 (Operand.tmp 15) (Operand.tmp 19) 9, type := 9, pos := "cents.go:84", after := #[{ on := 2, ground := Ground.data }, { on := 6, ground := Ground.data }], guard := none }) (v := ?_) rfl (by kernel_rfl) (by kernel_rfl) (by kernel_rfl) (fun _ _ _ h => h) (Or.inl ⟨by kernel_rfl, ?_⟩) hHeld ?_
  rotate_left
  · (intro w hSw; (try dsimp only at hSw); go_simp); try with_reducible rfl
  try simp only [Act.put, List.setIfInBounds_toArray, List.set_cons_zero, List.set_cons_succ]
  refine wpAnyH_ready (rs := [8]) (by kernel_rfl) (by simp) (AllReadyH.cons (o := { dst := some 21, op := Op.call { callee := Callee.value (Operand.func 28), args := #[Operand.tmp 20, Operand.const (Value.int IntKind.i64 10), Operand.const (Value.int IntKind.i64 64)], argTypes := #[9, 3, 3] }, type := 56, pos := "cents.go:84", after := #[{ on := 7, ground := Ground.data }], guard := none }) rfl (fun K hK => ?_) AllReadyH.nil)
  have hOld := hide hHeld
  clear hHeld
  go_simp
  refine (HPI.out _ hOld.out.1).mono ?_
  rintro e w2 ⟨N, rfl, hb⟩
  (try go_wp2_with fail)
  refine hK.out _ _ (⟨tabE_below hOld.out.1 hb, below_trans hOld.out.2 hb⟩) (fun hHeld => ?_)
  clear hK K hOld
  try simp only [Act.put, List.setIfInBounds_toArray, List.set_cons_zero, List.set_cons_succ]
  refine wpAnyH_take (i := 9) (oi := { dst := some 12, op := Op.move (Operand.tmp 21), type := 56, pos := "cents.go:84", after := #[{ on := 8, ground := Ground.data }], guard := none }) (v := ?_) rfl (by kernel_rfl) (by kernel_rfl) (by kernel_rfl) (fun _ _ _ h => h) (Or.inl ⟨by kernel_rfl, ?_⟩) hHeld ?_
  rotate_left
  · (intro w hSw; (try dsimp only at hSw); go_simp); try with_reducible rfl
  try simp only [Act.put, List.setIfInBounds_toArray, List.set_cons_zero, List.set_cons_succ]
  refine wpAnyH_take (i := 10) (oi := { dst := some 22, op := Op.extract (Operand.tmp 12) 0, type := 2, pos := "cents.go:84", after := #[{ on := 9, ground := Ground.data }], guard := none }) (v := ?_) rfl (by kernel_rfl) (by kernel_rfl) (by kernel_rfl) (fun _ _ _ h => h) (Or.inl ⟨by kernel_rfl, ?_⟩) hHeld ?_
  rotate_left
  · (intro w hSw; (try dsimp only at hSw); go_simp); try with_reducible rfl
  try simp only [Act.put, List.setIfInBounds_toArray, List.set_cons_zero, List.set_cons_succ]
  refine wpAnyH_take (i := 11) (oi := { dst := some 23, op := Op.extract (Operand.tmp 12) 1, type := 55, pos := "cents.go:84", after := #[{ on := 9, ground := Ground.data }, { on := 12, ground := Ground.gcOnly Departure.lateStores }], guard := none }) (v := ?_) rfl (by kernel_rfl) (by kernel_rfl) (by kernel_rfl) (fun _ _ _ h => h) (Or.inl ⟨by kernel_rfl, ?_⟩) hHeld ?_
  rotate_left
  · (intro w hSw; (try dsimp only at hSw); go_simp); try with_reducible rfl
  try simp only [Act.put, List.setIfInBounds_toArray, List.set_cons_zero, List.set_cons_succ]
  refine wpAnyH_take (i := 12) (oi := { dst := some 5, op := Op.assign (Operand.tmp 22), type := 2, pos := "cents.go:84", after := #[{ on := 10, ground := Ground.data }, { on := 8, ground := Ground.chain }, { on := 0, ground := Ground.phase }, { on := 1, ground := Ground.phase }, { on := 2, ground := Ground.phase }, { on := 3, ground := Ground.phase }, { on := 4, ground := Ground.phase }, { on := 5, ground := Ground.phase }, { on := 6, ground := Ground.phase }, { on := 7, ground := Ground.phase }, { on := 8, ground := Ground.phase }, { on := 9, ground := Ground.phase }, { on := 10, ground := Ground.phase }, { on := 11, ground := Ground.textOnly Departure.lateStores }], guard := none }) (v := ?_) rfl (by kernel_rfl) (by kernel_rfl) (by kernel_rfl) (fun _ _ _ h => h) (Or.inl ⟨by kernel_rfl, ?_⟩) hHeld ?_
  rotate_left
  · (intro w hSw; (try dsimp only at hSw); go_simp); try with_reducible rfl
  try simp only [Act.put, List.setIfInBounds_toArray, List.set_cons_zero, List.set_cons_succ]
  refine wpAnyH_take (i := 13) (oi := { dst := some 6, op := Op.assign (Operand.tmp 23), type := 55, pos := "cents.go:84", after := #[{ on := 11, ground := Ground.data }, { on := 12, ground := Ground.chain }, { on := 0, ground := Ground.phase }, { on := 1, ground := Ground.phase }, { on := 2, ground := Ground.phase }, { on := 3, ground := Ground.phase }, { on := 4, ground := Ground.phase }, { on := 5, ground := Ground.phase }, { on := 6, ground := Ground.phase }, { on := 7, ground := Ground.phase }, { on := 8, ground := Ground.phase }, { on := 9, ground := Ground.phase }, { on := 10, ground := Ground.phase }, { on := 11, ground := Ground.phase }, { on := 12, ground := Ground.phase }], guard := none }) (v := ?_) rfl (by kernel_rfl) (by kernel_rfl) (by kernel_rfl) (fun _ _ _ h => h) (Or.inl ⟨by kernel_rfl, ?_⟩) hHeld ?_
  rotate_left
  · (intro w hSw; (try dsimp only at hSw); go_simp); try with_reducible rfl
  try simp only [Act.put, List.setIfInBounds_toArray, List.set_cons_zero, List.set_cons_succ]
  refine wpAnyH_done (by kernel_rfl) ?_ _
  have HB2 := hide hHeld.2
  clear hHeld
  go_wp2_with fail
  go_ret2
  exact ⟨rfl, HB2.out⟩

/-- a text that is an amount's -/
theorem parse_yes (v : Int) (hv : inR v) (w : World) (htab : Tab w) :
    Calls Tryd.prog 19 #[.string (sb (cText v))] w fun e w' => e = .returned (.tuple #[.int .i64 v, .int .i64 0]) ∧ RowKit.Below w.heap.size w w' := by
  have h1 := cText_len v
  have h2 := dec_pos (v.natAbs / 100)
  have h3 := dec_len 16 (v.natAbs / 100) (by unfold inR at hv; omega)
  have h4 : (sgnL v).length ≤ 1 := by unfold sgnL; split <;> simp
  exact parse_ok v hv ((cText v).length - 3) (by omega) (by omega) (by omega) (parse_body v hv) w htab
/-- a text that is none's -/
theorem parse_no (l : List UInt8) (hl : l.length ≤ 100) (hno : ∀ v, inR v → cText v ≠ l) (w : World) (htab : TabE w) :
    Calls Tryd.prog 19 #[.string (sb l)] w fun e w' => e = .returned (.tuple #[.int .i64 0, .int .i64 4]) ∧ RowKit.Below w.heap.size w w' := by
  by_cases h4 : l.length < 4
  · refine (parse_short l h4 w).mono ?_
    rintro e w' ⟨rfl, rfl⟩
    exact ⟨rfl, RowKit.Below.refl _ _⟩
  · have hn : (noPoint l).length ≤ 100 := by rw [noPoint]; simp; omega
    cases hE : Lib.parseIntB 64 (noPoint l) with
    | ok v =>
      have hb := Lib.parseIntB_bounds hE
      have hv : inR v := by
        unfold inR
        have e : ((2 ^ (64 - 1) : Nat) : Int) = 9223372036854775808 := rfl
        omega
      refine parse_no1 l (l.length - 3) (by omega) (by omega) (by omega) v hv (hno v hv) (fun W _ => ?_) w htab
      refine (Tryd.strconv_ParseInt_10_at64_ok (sb (noPoint l)) (by rw [sb_size]; omega) v hE W).mono ?_
      rintro e w' ⟨rfl, h1⟩
      refine ⟨rfl, ?_⟩
      obtain rfl | ⟨t, rfl⟩ := h1
      · exact RowKit.Below.refl _ _
      · exact Lib.bytesWorld_below _ _ _
    | range =>
      refine parse_no2 l (l.length - 3) (by omega) (by omega) (by omega) (Lib.intSat 64 (sb (noPoint l)).data.toList) (fun W hW => ?_) w htab
      obtain ⟨tp, p, hvar⟩ := hW.2.1
      refine (Any.strconv_ParseInt_10_at64_range_var Tryd.laysC174 (sb (noPoint l)) (by rw [sb_size]; omega) hE tp p W hvar).mono ?_
      rintro e w' ⟨N, rfl, _, _, hb⟩
      exact ⟨N, rfl, hb⟩
    | _ =>
      refine parse_no2 l (l.length - 3) (by omega) (by omega) (by omega) 0 (fun W hW => ?_) w htab
      obtain ⟨tp, p, hvar⟩ := hW.2.2
      refine (Any.strconv_ParseInt_10_at64_syntax_var Tryd.laysC174 (sb (noPoint l)) (by rw [sb_size]; omega) hE tp p W hvar).mono ?_
      rintro e w' ⟨N, rfl, _, _, hb⟩
      exact ⟨N, rfl, hb⟩
end Go.Proofs.YtbfllpidnfcmpaaDoor
