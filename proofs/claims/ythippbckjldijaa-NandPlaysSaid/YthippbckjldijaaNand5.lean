/-
  Layer 5, the program's calls, fifth part: slices.Repeat of a page.
-/
import Derived.Test.YthippbckjldijaaNand4
import Derived.Test.YthippbckjldijaaKitR
namespace Go.Proofs.Ythippbckjldijaa
set_option linter.unusedSimpArgs false
set_option linter.unusedVariables false
open Go.RowKit Go.WideShapes Go.ChangeShapes Go.ChangeAt Go.Deep

/-- so many pages' cells -/
def manyP (m : Nat) (x : Pg) : List Value := (List.replicate m x).flatMap (pgC 0)
theorem manyP_add (a b : Nat) (x : Pg) : manyP (a + b) x = manyP a x ++ manyP b x := by unfold manyP; rw [← List.replicate_append_replicate, List.flatMap_append]
theorem manyP_length (m : Nat) (x : Pg) : (manyP m x).length = m * 2 := by unfold manyP; rw [flat_length (pgC 0) 2 (fun _ => rfl), List.length_replicate]
theorem manyP_one (m : Nat) (x : Pg) : ∀ u ∈ manyP m x, u.oneCell' = true := by
  intro u hu
  obtain ⟨y, -, hy⟩ := List.mem_flatMap.1 hu
  simp only [pgC, List.mem_cons, List.not_mem_nil, or_false] at hy
  rcases hy with rfl | rfl <;> rfl
theorem RwAt.of_flat {w : World} {q : Nat} {T : TypeId} {L : List Pg} (h : w.heap[q]? = some (.cells (L.flatMap (pgC 0)).toArray T (0, 0))) : RwAt w q T 2 pgC pg0 L :=
  ⟨_, h, by rw [List.size_toArray, flat_length (pgC 0) 2 (fun _ => rfl)], fun k hk j hj => by
    rw [List.getElem?_toArray, flat_at (pgC 0) 2 (fun _ => rfl) pg0 L k j hk hj]; rfl⟩
/-- the row under way: m have the page, the others are zero -/
def wayP (m n : Nat) (x : Pg) : List Value := manyP m x ++ manyP (n - m) pg0
theorem wayP_length (m n : Nat) (x : Pg) (h : m ≤ n) : (wayP m n x).length = n * 2 := by unfold wayP; rw [List.length_append, manyP_length, manyP_length]; omega
/-- k more -/
theorem wayP_copy (m n k : Nat) (x : Pg) (h : m + k ≤ n) : (wayP m n x).take (m * 2) ++ manyP k x ++ (wayP m n x).drop (m * 2 + (manyP k x).length) = wayP (m + k) n x := by
  have h1 : wayP m n x = manyP m x ++ (manyP k pg0 ++ manyP (n - (m + k)) pg0) := by
    unfold wayP
    rw [← manyP_add, show k + (n - (m + k)) = n - m by omega]
  have h2 : (wayP m n x).take (m * 2) = manyP m x := by
    rw [h1, List.take_left' (manyP_length m x)]
  have h3 : (wayP m n x).drop (m * 2 + (manyP k x).length) = manyP (n - (m + k)) pg0 := by
    rw [h1, ← List.append_assoc, List.drop_left' (by rw [List.length_append, manyP_length, manyP_length, manyP_length])]
  rw [h2, h3]
  unfold wayP
  rw [manyP_add]
theorem wayP_src (m n k : Nat) (x : Pg) (hk : k ≤ m) (j : Nat) (u : Value) (h : (manyP k x)[j]? = some u) : (wayP m n x)[j]? = some u := by
  obtain ⟨hj, -⟩ := List.getElem?_eq_some_iff.1 h
  unfold wayP
  rw [show m = k + (m - k) by omega, manyP_add, List.append_assoc, List.getElem?_append_left hj]
  exact h
def RepIs (n : Nat) (x : Pg) (w : World) (e : Ending) (w' : World) : Prop := ∃ g, e = .returned (.slice (some ⟨g, 0, none⟩) n n) ∧ w.heap.size ≤ g ∧ RwAt w' g 70 2 pgC pg0 (List.replicate n x) ∧ Below w.heap.size w w'
set_option maxRecDepth 100000 in
set_option maxHeartbeats 400000 in
theorem repeat_any (x : Pg) (b n : Nat) (h1 : 1 ≤ n) (hn : n ≤ 64) (w : World) (hb : w.heap[b]? = some (.cells #[.string x.1, .string x.2] 70 (0, 0))) :
    Calls Try.prog 34 #[.slice (some ⟨b, 0, none⟩) 1 1, .int .i64 (n : Int)] w (RepIs n x w) := by
  have HM := hide (show ∀ W, Calls Try.prog 47 #[.int .u64 1, .int .u64 (n : Int)] W fun e w' => e = .returned (.tuple #[.int .u64 0, .int .u64 (n : Int)]) ∧ w' = W from fun W => by
    have h := Try.bits_Mul 1 n (by omega) (by omega) W
    rw [Nat.one_mul, Nat.div_eq_of_lt (by omega), Nat.mod_eq_of_lt (by omega)] at h
    exact h)
  have hmk := fun W => run_make_rows (P := Try.prog) 75 70 (z := .agg #[.string ⟨#[]⟩, .string ⟨#[]⟩]) (B := 32) (k := 2) [.string ⟨#[]⟩, .string ⟨#[]⟩] Try.underlying75 (by kernel_rfl) rfl rfl (by decide) n (by omega) (by omega) W
  have HB := hide hb
  have hwn : IntKind.u64.wrap (n : Int) = (n : Int) := by rw [IntKind.wrap_u64]; omega
  clear hb
  go_enter Try.func34, Try.ntmps34
  go_wp2_with fail
  refine (HM.out _).mono ?_
  rintro e w1 ⟨rfl, rfl⟩
  clear HM
  have hcp := run_copy_rows (P := Try.prog) (w1.alloc (Obj.cells (List.flatMap (fun _ : Unit => [Value.string ⟨#[]⟩, Value.string ⟨#[]⟩]) (List.replicate n ())).toArray 70)) 75 75 3 70 w1.heap.size 0 n n ⟨b, 0, none⟩ 1 1 _ 70 (manyP 1 x) 2 Try.underlying75 (by kernel_rfl) (heap_new w1 _) (by rw [manyP_length]; rw [show Nat.min 1 n = 1 from Nat.min_eq_left h1])
    (fun j u hu => by
      have hbl := heap_lt HB.out
      have h := cells_new (W := w1.alloc (Obj.cells (List.flatMap (fun _ : Unit => [Value.string ⟨#[]⟩, Value.string ⟨#[]⟩]) (List.replicate n ())).toArray 70)) (l := [Value.string x.1, Value.string x.2]) ((heap_old w1 _ b hbl).trans HB.out) j u
      exact h hu)
    (by rw [manyP_length, List.size_toArray, flat_length _ 2 (fun _ => rfl), List.length_replicate]; omega) (manyP_one 1 x)
  rw [show Nat.min 1 n = 1 from Nat.min_eq_left h1] at hcp
  have hz : (List.flatMap (fun _ : Unit => [Value.string ⟨#[]⟩, Value.string ⟨#[]⟩]) (List.replicate n ())) = wayP 0 n x := by
    show _ = manyP 0 x ++ manyP (n - 0) pg0
    rw [Nat.sub_zero, show manyP 0 x = [] from rfl, List.nil_append]
    unfold manyP
    rw [← List.map_replicate (f := fun _ : Unit => pg0) (n := n) (a := ()), List.flatMap_map]
    rfl
  have hz2 : (List.take 0 (wayP 0 n x) ++ manyP 1 x ++ List.drop (0 + (manyP 1 x).length) (wayP 0 n x)) = wayP 1 n x := by
    have := wayP_copy 0 n 1 x (by omega)
    rw [Nat.zero_mul, Nat.zero_add] at this
    exact this
  rw [List.toList_toArray, show (List.take 0 (List.flatMap (fun _ : Unit => [Value.string ⟨#[]⟩, Value.string ⟨#[]⟩]) (List.replicate n ())) ++ manyP 1 x ++ List.drop (0 + (manyP 1 x).length) (List.flatMap (fun _ : Unit => [Value.string ⟨#[]⟩, Value.string ⟨#[]⟩]) (List.replicate n ()))) = wayP 1 n x by rw [hz]; exact hz2] at hcp
  obtain ⟨z0, hz0⟩ : ∃ z0, z0 = (List.flatMap (fun _ : Unit => [Value.string ⟨#[]⟩, Value.string ⟨#[]⟩]) (List.replicate n ())).toArray := ⟨_, rfl⟩
  rw [← hz0] at hcp hmk
  have HCP := hide hcp
  have R2 := hide (setRow_heap (w1.alloc (Obj.cells z0 70)) w1.heap.size _ (wayP 1 n x).toArray _ _ (heap_new w1 _))
  have B2 := hide (below_setRow ((Below.refl w1.heap.size w1).alloc (Nat.le_refl _) (Obj.cells z0 70)) (Nat.le_refl _) (wayP 1 n x).toArray)
  clear hcp hz2 hz hz0
  generalize (w1.alloc (Obj.cells z0 70)).setRow w1.heap.size (wayP 1 n x).toArray = w2 at *
  have hcp := HCP.out
  clear HCP
  go_wp2_with fail
  clear hcp hmk
  go_loopw [8] (fun m W => ∃ j : Nat, 1 ≤ j ∧ j ≤ n ∧ m = .int .i64 j ∧ W.heap[w1.heap.size]? = some (.cells (wayP j n x).toArray 70 (0, 0)) ∧ Below w1.heap.size w1 W) (fun m _ => n - (intOf m).toNat)
  case atStart => exact ⟨1, by omega, h1, rfl, R2.out, B2.out⟩
  case round =>
    obtain ⟨j, hj1, hj2, rfl, hr, hb⟩ := hrel
    have RJ := hide hr
    have BJ := hide hb
    clear hr hb
    by_cases hlt : j < n
    · obtain ⟨k, hk⟩ : ∃ k, Nat.min j (n - j) = k := ⟨_, rfl⟩
      have hk1 : 1 ≤ k := by rw [← hk]; exact Nat.le_min.2 ⟨hj1, by omega⟩
      have hk2 : k ≤ j := by rw [← hk]; exact Nat.min_le_left _ _
      have hk3 : j + k ≤ n := by have h5 : Nat.min j (n - j) ≤ n - j := Nat.min_le_right _ _; rw [hk] at h5; omega
      have hsz : (wayP j n x).toArray.size = n * 2 := by rw [List.size_toArray, wayP_length j n x hj2]
      have hcp := run_copy_rows (P := Try.prog) wr.drew 75 75 3 70 w1.heap.size (j * 2) (n - j) (n - j) ⟨w1.heap.size, 0, none⟩ j n (wayP j n x).toArray 70 (manyP k x) 2 Try.underlying75 (by kernel_rfl) RJ.out (by rw [manyP_length, hk])
        (fun i u hu => cells_new (W := wr.drew) (l := wayP j n x) RJ.out i u (wayP_src j n k x hk2 i u hu))
        (by rw [manyP_length, hsz]; omega) (manyP_one k x)
      rw [hk, List.toList_toArray, wayP_copy j n k x hk3] at hcp
      have R3 := hide (setRow_heap wr.drew w1.heap.size _ (wayP (j + k) n x).toArray _ _ RJ.out)
      have B3 := hide (below_setRow BJ.out.drew (Nat.le_refl _) (wayP (j + k) n x).toArray)
      generalize wr.drew.setRow w1.heap.size (wayP (j + k) n x).toArray = w3 at *
      clear hsz hk
      have hnj : (j : Int) ≤ (n : Int) := by omega
      have hwjk : IntKind.i64.wrap ((j : Int) + (k : Int)) = (j : Int) + (k : Int) := by rw [IntKind.wrap_i64]; omega
      go_upto_region 9 with (fail)
      --BEGIN9
      refine wp_region_held_drew (S := (fun _ => True)) (by kernel_rfl) (trivial) (fun hHeld => ?_)
      generalize wr.drew = v0 at *
      refine wpAnyH_take (i := 0) (oi := { dst := some 38, op := Op.move (Operand.tmp 8), type := 3, pos := "slices.go:528", after := #[], guard := none }) (v := ?_) rfl (by kernel_rfl) (by kernel_rfl) (by kernel_rfl) (fun _ _ _ h => h) (Or.inl ⟨by kernel_rfl, ?_⟩) hHeld ?_
      rotate_left
      · (intro w hSw; (try dsimp only at hSw); go_simp); try with_reducible rfl
      try simp only [Act.put, List.setIfInBounds_toArray, List.set_cons_zero, List.set_cons_succ]
      refine wpAnyH_take (i := 1) (oi := { dst := some 39, op := Op.move (Operand.tmp 7), type := 75, pos := "slices.go:528", after := #[], guard := none }) (v := ?_) rfl (by kernel_rfl) (by kernel_rfl) (by kernel_rfl) (fun _ _ _ h => h) (Or.inl ⟨by kernel_rfl, ?_⟩) hHeld ?_
      rotate_left
      · (intro w hSw; (try dsimp only at hSw); go_simp); try with_reducible rfl
      try simp only [Act.put, List.setIfInBounds_toArray, List.set_cons_zero, List.set_cons_succ]
      refine wpAnyH_take (i := 2) (oi := { dst := some 40, op := Op.move (Operand.tmp 8), type := 3, pos := "slices.go:528", after := #[], guard := none }) (v := ?_) rfl (by kernel_rfl) (by kernel_rfl) (by kernel_rfl) (fun _ _ _ h => h) (Or.inl ⟨by kernel_rfl, ?_⟩) hHeld ?_
      rotate_left
      · (intro w hSw; (try dsimp only at hSw); go_simp); try with_reducible rfl
      try simp only [Act.put, List.setIfInBounds_toArray, List.set_cons_zero, List.set_cons_succ]
      refine wpAnyH_take (i := 3) (oi := { dst := some 41, op := Op.slice 75 (Operand.tmp 39) (some (Operand.tmp 40)) none none, type := 75, pos := "slices.go:528", after := #[{ on := 1, ground := Ground.data }, { on := 2, ground := Ground.data }], guard := none }) (v := ?_) rfl (by kernel_rfl) (by kernel_rfl) (by kernel_rfl) (fun _ _ _ h => h) (Or.inl ⟨by kernel_rfl, ?_⟩) hHeld ?_
      rotate_left
      · (intro w hSw; (try dsimp only at hSw); go_simp); try with_reducible rfl
      try simp only [Act.put, List.setIfInBounds_toArray, List.set_cons_zero, List.set_cons_succ]
      refine wpAnyH_take (i := 4) (oi := { dst := some 42, op := Op.move (Operand.tmp 7), type := 75, pos := "slices.go:528", after := #[], guard := none }) (v := ?_) rfl (by kernel_rfl) (by kernel_rfl) (by kernel_rfl) (fun _ _ _ h => h) (Or.inl ⟨by kernel_rfl, ?_⟩) hHeld ?_
      rotate_left
      · (intro w hSw; (try dsimp only at hSw); go_simp); try with_reducible rfl
      try simp only [Act.put, List.setIfInBounds_toArray, List.set_cons_zero, List.set_cons_succ]
      refine wpAnyH_take (i := 5) (oi := { dst := some 43, op := Op.move (Operand.tmp 8), type := 3, pos := "slices.go:528", after := #[], guard := none }) (v := ?_) rfl (by kernel_rfl) (by kernel_rfl) (by kernel_rfl) (fun _ _ _ h => h) (Or.inl ⟨by kernel_rfl, ?_⟩) hHeld ?_
      rotate_left
      · (intro w hSw; (try dsimp only at hSw); go_simp); try with_reducible rfl
      try simp only [Act.put, List.setIfInBounds_toArray, List.set_cons_zero, List.set_cons_succ]
      refine wpAnyH_take (i := 6) (oi := { dst := some 44, op := Op.slice 75 (Operand.tmp 42) none (some (Operand.tmp 43)) none, type := 75, pos := "slices.go:528", after := #[{ on := 4, ground := Ground.data }, { on := 5, ground := Ground.data }], guard := none }) (v := ?_) rfl (by kernel_rfl) (by kernel_rfl) (by kernel_rfl) (fun _ _ _ h => h) (Or.inl ⟨by kernel_rfl, ?_⟩) hHeld ?_
      rotate_left
      · (intro w hSw; (try dsimp only at hSw); go_simp); try with_reducible rfl
      try simp only [Act.put, List.setIfInBounds_toArray, List.set_cons_zero, List.set_cons_succ]
      refine wpAnyH_ready (rs := [7]) (by kernel_rfl) (by simp) (AllReadyH.cons (o := { dst := some 45, op := Op.call { callee := Callee.builtin Builtin.copy, args := #[Operand.tmp 41, Operand.tmp 44], argTypes := #[75, 75] }, type := 3, pos := "slices.go:528", after := #[{ on := 3, ground := Ground.data }, { on := 6, ground := Ground.data }], guard := none }) rfl (fun K hK => ?_) AllReadyH.nil)
      have hOld := hide hHeld
      clear hHeld
      go_simp
      (try simp only [hcp, Result.andThen])
      (try go_wp2_with fail)
      refine hK.out _ _ (trivial) (fun hHeld => ?_)
      clear hK K hOld
      try simp only [Act.put, List.setIfInBounds_toArray, List.set_cons_zero, List.set_cons_succ]
      refine wpAnyH_take (i := 8) (oi := { dst := some 46, op := Op.binOp BinOp.add 3 (Operand.tmp 38) (Operand.tmp 45) 3, type := 3, pos := "slices.go:528", after := #[{ on := 0, ground := Ground.data }, { on := 7, ground := Ground.data }], guard := none }) (v := ?_) rfl (by kernel_rfl) (by kernel_rfl) (by kernel_rfl) (fun _ _ _ h => h) (Or.inl ⟨by kernel_rfl, ?_⟩) hHeld ?_
      rotate_left
      · (intro w hSw; (try dsimp only at hSw); go_simp); try with_reducible rfl
      try simp only [Act.put, List.setIfInBounds_toArray, List.set_cons_zero, List.set_cons_succ]
      refine wpAnyH_take (i := 9) (oi := { dst := some 8, op := Op.assign (Operand.tmp 46), type := 3, pos := "slices.go:528", after := #[{ on := 8, ground := Ground.data }, { on := 7, ground := Ground.chain }, { on := 0, ground := Ground.phase }, { on := 1, ground := Ground.phase }, { on := 2, ground := Ground.phase }, { on := 3, ground := Ground.phase }, { on := 4, ground := Ground.phase }, { on := 5, ground := Ground.phase }, { on := 6, ground := Ground.phase }, { on := 7, ground := Ground.phase }, { on := 8, ground := Ground.phase }], guard := none }) (v := ?_) rfl (by kernel_rfl) (by kernel_rfl) (by kernel_rfl) (fun _ _ _ h => h) (Or.inl ⟨by kernel_rfl, ?_⟩) hHeld ?_
      rotate_left
      · (intro w hSw; (try dsimp only at hSw); go_simp); try with_reducible rfl
      try simp only [Act.put, List.setIfInBounds_toArray, List.set_cons_zero, List.set_cons_succ]
      refine wpAnyH_done (by kernel_rfl) ?_ _
      clear hHeld
      --END9
      go_wp2_with fail
      go_roundw
      case rel => exact ⟨j + k, by omega, hk3, by go_num, R3.out, B3.out⟩
      case measure => simp [intOf]; omega
    · obtain rfl : j = n := by omega
      have hr := RJ.out
      have hL : wayP j j x = (List.replicate j x).flatMap (pgC 0) := by unfold wayP; rw [Nat.sub_self, show manyP 0 pg0 = [] from rfl, List.append_nil]; rfl
      rw [hL] at hr
      have HR := hide (RwAt.of_flat hr)
      clear hr hL
      go_wp2_with fail
      go_ret
      exact ⟨w1.heap.size, rfl, Nat.le_refl _, HR.out, BJ.out⟩
end Go.Proofs.Ythippbckjldijaa
