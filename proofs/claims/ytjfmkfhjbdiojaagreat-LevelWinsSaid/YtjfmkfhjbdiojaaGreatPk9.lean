/-
  Lemmas and contracts of this project's own, put together: KitR, Nand5, Nand6, Nand7, Nand8, Nand9, Nand10, Nand11, Nand12, Nand13, Nand14.
-/
import Derived.Laws.CopyRow
import Derived.Laws.CopyOwn
import Derived.Test.YtjfmkfhjbdiojaaGreatPk8
namespace Go.Proofs.YtjfmkfhjbdiojaaGreat
set_option linter.unusedSimpArgs false
set_option linter.unusedVariables false
open Go.RowKit

theorem run_copy_rows {P : Program} (w : World) (dT sT ty elem : TypeId) (g o dLen dCap : Nat) (a : Addr) (sLen sCap : Nat) (cur : Array Value) (t : TypeId) (cs : List Value) (k : Nat)
    (hu : P.underlying dT = some (.slice elem)) (hs : (P.info? elem).map (·.size) = some k)
    (hg : w.heap[g]? = some (.cells cur t (0, 0))) (hn : cs.length = Nat.min sLen dLen * k)
    (hsrc : ∀ j v, cs[j]? = some v → w.cell? (a.add j) = some v) (hfit : o + cs.length ≤ cur.size) (h1 : ∀ v ∈ cs, v.oneCell' = true) :
    (Builtin.copy_ #[dT, sT] ty #[.slice (some ⟨g, o, none⟩) dLen dCap, .slice (some a) sLen sCap]).run P w =
      .ok (goInt (Nat.min sLen dLen)) (w.setRow g (cur.toList.take o ++ cs ++ cur.toList.drop (o + cs.length)).toArray) := by
  have hl := run_loadCells_list (P := P) w a cs hsrc
  have hst := run_storeCells_at P g o t cs 0 cur w hg (by simpa using hfit) h1
  cases hq : P.info? elem with
  | none => simp [hq] at hs
  | some i =>
    have hi : i.size = k := by simpa [hq] using hs
    rw [hn] at hl
    simp [Builtin.copy_, run_underlying hu, Builtin.lenOf, Builtin.firstCells, sizeOf, typeInfo, hq, hi, hl, hst]
theorem wpList_copy_run {P : Program} (w : World) {ops : Array Oper} {rest : List Oper} {o : Oper} {a : Act} {Q : Exit → Act → World → Prop}
    (hg : o.guard = none) (s x : Operand) (t t' : TypeId) (hop : o.op = Op.call { callee := Callee.builtin Builtin.copy, args := #[s, x], argTypes := #[t, t'] })
    (vs vx v : Value) (w' : World) (hs : a.eval s = vs) (hx : a.eval x = vx) (hrun : (Builtin.copy_ #[t, t'] o.type #[vs, vx]).run P w = .ok v w')
    (hK : wpList P ops Q rest (a.put o.dst v) w') :
    wpList P ops Q (o :: rest) a w := by
  refine wpList_plain hg fun K' hK' => ?_
  unfold Oper.wp
  simp [execOp, hop, resolve, invoke, builtin, hs, hx, hrun, Result.andThen]
  exact hK' _ _ hK
end Go.Proofs.YtjfmkfhjbdiojaaGreat

namespace Go.Proofs.YtjfmkfhjbdiojaaGreat
set_option linter.unusedSimpArgs false
set_option linter.unusedVariables false
open Go.RowKit Go.WideShapes Go.ChangeShapes Go.ChangeAt Go.Deep

/-- so many pages' cells -/
def manyP (m : Nat) (x : Pg) : List Value := (List.replicate m x).flatMap (pgC 0)
theorem manyP_add (a b : Nat) (x : Pg) : manyP (a + b) x = manyP a x ++ manyP b x := by unfold manyP; rw [← List.replicate_append_replicate, List.flatMap_append]
theorem manyP_length (m : Nat) (x : Pg) : (manyP m x).length = m * 2 := by unfold manyP; rw [flat_length (pgC 0) 2 (fun _ => rfl), List.length_replicate]
theorem manyP_one (m : Nat) (x : Pg) : ∀ u ∈ manyP m x, u.oneCell' = true := by
  intro u hu
  obtain ⟨y, -, hy⟩ := List.mem_flatMap.1 hu
  simp only [pgC, List.mem_cons, List.not_mem_nil, or_false] at hy
  rcases hy with rfl | rfl <;> rfl
theorem RwAt.of_flat {w : World} {q : Nat} {T : TypeId} {L : List Pg} (h : w.heap[q]? = some (.cells (L.flatMap (pgC 0)).toArray T (0, 0))) : RwAt w q T 2 pgC pg0 L :=
  ⟨_, h, by rw [List.size_toArray, flat_length (pgC 0) 2 (fun _ => rfl)], fun k hk j hj => by
    rw [List.getElem?_toArray, flat_at (pgC 0) 2 (fun _ => rfl) pg0 L k j hk hj]; rfl⟩
/-- the row under way: m have the page, the others are zero -/
def wayP (m n : Nat) (x : Pg) : List Value := manyP m x ++ manyP (n - m) pg0
theorem wayP_length (m n : Nat) (x : Pg) (h : m ≤ n) : (wayP m n x).length = n * 2 := by unfold wayP; rw [List.length_append, manyP_length, manyP_length]; omega
/-- k more -/
theorem wayP_copy (m n k : Nat) (x : Pg) (h : m + k ≤ n) : (wayP m n x).take (m * 2) ++ manyP k x ++ (wayP m n x).drop (m * 2 + (manyP k x).length) = wayP (m + k) n x := by
  have h1 : wayP m n x = manyP m x ++ (manyP k pg0 ++ manyP (n - (m + k)) pg0) := by
    unfold wayP
    rw [← manyP_add, show k + (n - (m + k)) = n - m by omega]
  have h2 : (wayP m n x).take (m * 2) = manyP m x := by
    rw [h1, List.take_left' (manyP_length m x)]
  have h3 : (wayP m n x).drop (m * 2 + (manyP k x).length) = manyP (n - (m + k)) pg0 := by
    rw [h1, ← List.append_assoc, List.drop_left' (by rw [List.length_append, manyP_length, manyP_length, manyP_length])]
  rw [h2, h3]
  unfold wayP
  rw [manyP_add]
theorem wayP_src (m n k : Nat) (x : Pg) (hk : k ≤ m) (j : Nat) (u : Value) (h : (manyP k x)[j]? = some u) : (wayP m n x)[j]? = some u := by
  obtain ⟨hj, -⟩ := List.getElem?_eq_some_iff.1 h
  unfold wayP
  rw [show m = k + (m - k) by omega, manyP_add, List.append_assoc, List.getElem?_append_left hj]
  exact h
def RepIs (n : Nat) (x : Pg) (w : World) (e : Ending) (w' : World) : Prop := ∃ g, e = .returned (.slice (some ⟨g, 0, none⟩) n n) ∧ w.heap.size ≤ g ∧ RwAt w' g 107 2 pgC pg0 (List.replicate n x) ∧ Below w.heap.size w w'
set_option maxRecDepth 100000 in
set_option maxHeartbeats 400000 in
theorem repeat_any (x : Pg) (b n : Nat) (h1 : 1 ≤ n) (hn : n ≤ 64) (w : World) (hb : w.heap[b]? = some (.cells #[.string x.1, .string x.2] 107 (0, 0))) :
    Calls Tryz.prog 42 #[.slice (some ⟨b, 0, none⟩) 1 1, .int .i64 (n : Int)] w (RepIs n x w) := by
  have HM := hide (show ∀ W, Calls Tryz.prog 76 #[.int .u64 1, .int .u64 (n : Int)] W fun e w' => e = .returned (.tuple #[.int .u64 0, .int .u64 (n : Int)]) ∧ w' = W from fun W => by
    have h := Tryz.bits_Mul 1 n (by omega) (by omega) W
    rw [Nat.one_mul, Nat.div_eq_of_lt (by omega), Nat.mod_eq_of_lt (by omega)] at h
    exact h)
  have hmk := fun W => run_make_rows (P := Tryz.prog) 119 107 (z := .agg #[.string ⟨#[]⟩, .string ⟨#[]⟩]) (B := 32) (k := 2) [.string ⟨#[]⟩, .string ⟨#[]⟩] Tryz.underlying119 (by kernel_rfl) rfl rfl (by decide) n (by omega) (by omega) W
  have HB := hide hb
  have hwn : IntKind.u64.wrap (n : Int) = (n : Int) := by rw [IntKind.wrap_u64]; omega
  clear hb
  go_enter Tryz.func42, Tryz.ntmps42
  go_wp2_with fail
  refine (HM.out _).mono ?_
  rintro e w1 ⟨rfl, rfl⟩
  clear HM
  have hcp := run_copy_rows (P := Tryz.prog) (w1.alloc (Obj.cells (List.flatMap (fun _ : Unit => [Value.string ⟨#[]⟩, Value.string ⟨#[]⟩]) (List.replicate n ())).toArray 107)) 119 119 3 107 w1.heap.size 0 n n ⟨b, 0, none⟩ 1 1 _ 107 (manyP 1 x) 2 Tryz.underlying119 (by kernel_rfl) (heap_new w1 _) (by rw [manyP_length]; rw [show Nat.min 1 n = 1 from Nat.min_eq_left h1])
    (fun j u hu => by
      have hbl := heap_lt HB.out
      have h := cells_new (W := w1.alloc (Obj.cells (List.flatMap (fun _ : Unit => [Value.string ⟨#[]⟩, Value.string ⟨#[]⟩]) (List.replicate n ())).toArray 107)) (l := [Value.string x.1, Value.string x.2]) ((heap_old w1 _ b hbl).trans HB.out) j u
      exact h hu)
    (by rw [manyP_length, List.size_toArray, flat_length _ 2 (fun _ => rfl), List.length_replicate]; omega) (manyP_one 1 x)
  rw [show Nat.min 1 n = 1 from Nat.min_eq_left h1] at hcp
  have hz : (List.flatMap (fun _ : Unit => [Value.string ⟨#[]⟩, Value.string ⟨#[]⟩]) (List.replicate n ())) = wayP 0 n x := by
    show _ = manyP 0 x ++ manyP (n - 0) pg0
    rw [Nat.sub_zero, show manyP 0 x = [] from rfl, List.nil_append]
    unfold manyP
    rw [← List.map_replicate (f := fun _ : Unit => pg0) (n := n) (a := ()), List.flatMap_map]
    rfl
  have hz2 : (List.take 0 (wayP 0 n x) ++ manyP 1 x ++ List.drop (0 + (manyP 1 x).length) (wayP 0 n x)) = wayP 1 n x := by
    have := wayP_copy 0 n 1 x (by omega)
    rw [Nat.zero_mul, Nat.zero_add] at this
    exact this
  rw [List.toList_toArray, show (List.take 0 (List.flatMap (fun _ : Unit => [Value.string ⟨#[]⟩, Value.string ⟨#[]⟩]) (List.replicate n ())) ++ manyP 1 x ++ List.drop (0 + (manyP 1 x).length) (List.flatMap (fun _ : Unit => [Value.string ⟨#[]⟩, Value.string ⟨#[]⟩]) (List.replicate n ()))) = wayP 1 n x by rw [hz]; exact hz2] at hcp
  obtain ⟨z0, hz0⟩ : ∃ z0, z0 = (List.flatMap (fun _ : Unit => [Value.string ⟨#[]⟩, Value.string ⟨#[]⟩]) (List.replicate n ())).toArray := ⟨_, rfl⟩
  rw [← hz0] at hcp hmk
  have HCP := hide hcp
  have R2 := hide (setRow_heap (w1.alloc (Obj.cells z0 107)) w1.heap.size _ (wayP 1 n x).toArray _ _ (heap_new w1 _))
  have B2 := hide (below_setRow ((Below.refl w1.heap.size w1).alloc (Nat.le_refl _) (Obj.cells z0 107)) (Nat.le_refl _) (wayP 1 n x).toArray)
  clear hcp hz2 hz hz0
  generalize (w1.alloc (Obj.cells z0 107)).setRow w1.heap.size (wayP 1 n x).toArray = w2 at *
  have hcp := HCP.out
  clear HCP
  go_wp2_with fail
  clear hcp hmk
  go_loopw [8] (fun m W => ∃ j : Nat, 1 ≤ j ∧ j ≤ n ∧ m = .int .i64 j ∧ W.heap[w1.heap.size]? = some (.cells (wayP j n x).toArray 107 (0, 0)) ∧ Below w1.heap.size w1 W) (fun m _ => n - (intOf m).toNat)
  case atStart => exact ⟨1, by omega, h1, rfl, R2.out, B2.out⟩
  case round =>
    obtain ⟨j, hj1, hj2, rfl, hr, hb⟩ := hrel
    have RJ := hide hr
    have BJ := hide hb
    clear hr hb
    by_cases hlt : j < n
    · obtain ⟨k, hk⟩ : ∃ k, Nat.min j (n - j) = k := ⟨_, rfl⟩
      have hk1 : 1 ≤ k := by rw [← hk]; exact Nat.le_min.2 ⟨hj1, by omega⟩
      have hk2 : k ≤ j := by rw [← hk]; exact Nat.min_le_left _ _
      have hk3 : j + k ≤ n := by have h5 : Nat.min j (n - j) ≤ n - j := Nat.min_le_right _ _; rw [hk] at h5; omega
      have hsz : (wayP j n x).toArray.size = n * 2 := by rw [List.size_toArray, wayP_length j n x hj2]
      have hcp := run_copy_rows (P := Tryz.prog) wr.drew 119 119 3 107 w1.heap.size (j * 2) (n - j) (n - j) ⟨w1.heap.size, 0, none⟩ j n (wayP j n x).toArray 107 (manyP k x) 2 Tryz.underlying119 (by kernel_rfl) RJ.out (by rw [manyP_length, hk])
        (fun i u hu => cells_new (W := wr.drew) (l := wayP j n x) RJ.out i u (wayP_src j n k x hk2 i u hu))
        (by rw [manyP_length, hsz]; omega) (manyP_one k x)
      rw [hk, List.toList_toArray, wayP_copy j n k x hk3] at hcp
      have R3 := hide (setRow_heap wr.drew w1.heap.size _ (wayP (j + k) n x).toArray _ _ RJ.out)
      have B3 := hide (below_setRow BJ.out.drew (Nat.le_refl _) (wayP (j + k) n x).toArray)
      generalize wr.drew.setRow w1.heap.size (wayP (j + k) n x).toArray = w3 at *
      clear hsz hk
      have hnj : (j : Int) ≤ (n : Int) := by omega
      have hwjk : IntKind.i64.wrap ((j : Int) + (k : Int)) = (j : Int) + (k : Int) := by rw [IntKind.wrap_i64]; omega
      go_upto_region 9 with (fail)
      --BEGIN9
      refine wp_region_held_drew (S := (fun _ => True)) (by kernel_rfl) (trivial) (fun hHeld => ?_)
      generalize wr.drew = v0 at *
      refine wpAnyH_take (i := 0) (oi := { dst := some 38, op := Op.move (Operand.tmp 8), type := 3, pos := "slices.go:528", after := #[], guard := none }) (v := ?_) rfl (by kernel_rfl) (by kernel_rfl) (by kernel_rfl) (fun _ _ _ h => h) (Or.inl ⟨by kernel_rfl, ?_⟩) hHeld ?_
      rotate_left
      · (intro w hSw; (try dsimp only at hSw); go_simp); try with_reducible rfl
      try simp only [Act.put, List.setIfInBounds_toArray, List.set_cons_zero, List.set_cons_succ]
      refine wpAnyH_take (i := 1) (oi := { dst := some 39, op := Op.move (Operand.tmp 7), type := 119, pos := "slices.go:528", after := #[], guard := none }) (v := ?_) rfl (by kernel_rfl) (by kernel_rfl) (by kernel_rfl) (fun _ _ _ h => h) (Or.inl ⟨by kernel_rfl, ?_⟩) hHeld ?_
      rotate_left
      · (intro w hSw; (try dsimp only at hSw); go_simp); try with_reducible rfl
      try simp only [Act.put, List.setIfInBounds_toArray, List.set_cons_zero, List.set_cons_succ]
      refine wpAnyH_take (i := 2) (oi := { dst := some 40, op := Op.move (Operand.tmp 8), type := 3, pos := "slices.go:528", after := #[], guard := none }) (v := ?_) rfl (by kernel_rfl) (by kernel_rfl) (by kernel_rfl) (fun _ _ _ h => h) (Or.inl ⟨by kernel_rfl, ?_⟩) hHeld ?_
      rotate_left
      · (intro w hSw; (try dsimp only at hSw); go_simp); try with_reducible rfl
      try simp only [Act.put, List.setIfInBounds_toArray, List.set_cons_zero, List.set_cons_succ]
      refine wpAnyH_take (i := 3) (oi := { dst := some 41, op := Op.slice 119 (Operand.tmp 39) (some (Operand.tmp 40)) none none, type := 119, pos := "slices.go:528", after := #[{ on := 1, ground := Ground.data }, { on := 2, ground := Ground.data }], guard := none }) (v := ?_) rfl (by kernel_rfl) (by kernel_rfl) (by kernel_rfl) (fun _ _ _ h => h) (Or.inl ⟨by kernel_rfl, ?_⟩) hHeld ?_
      rotate_left
      · (intro w hSw; (try dsimp only at hSw); go_simp); try with_reducible rfl
      try simp only [Act.put, List.setIfInBounds_toArray, List.set_cons_zero, List.set_cons_succ]
      refine wpAnyH_take (i := 4) (oi := { dst := some 42, op := Op.move (Operand.tmp 7), type := 119, pos := "slices.go:528", after := #[], guard := none }) (v := ?_) rfl (by kernel_rfl) (by kernel_rfl) (by kernel_rfl) (fun _ _ _ h => h) (Or.inl ⟨by kernel_rfl, ?_⟩) hHeld ?_
      rotate_left
      · (intro w hSw; (try dsimp only at hSw); go_simp); try with_reducible rfl
      try simp only [Act.put, List.setIfInBounds_toArray, List.set_cons_zero, List.set_cons_succ]
      refine wpAnyH_take (i := 5) (oi := { dst := some 43, op := Op.move (Operand.tmp 8), type := 3, pos := "slices.go:528", after := #[], guard := none }) (v := ?_) rfl (by kernel_rfl) (by kernel_rfl) (by kernel_rfl) (fun _ _ _ h => h) (Or.inl ⟨by kernel_rfl, ?_⟩) hHeld ?_
      rotate_left
      · (intro w hSw; (try dsimp only at hSw); go_simp); try with_reducible rfl
      try simp only [Act.put, List.setIfInBounds_toArray, List.set_cons_zero, List.set_cons_succ]
      refine wpAnyH_take (i := 6) (oi := { dst := some 44, op := Op.slice 119 (Operand.tmp 42) none (some (Operand.tmp 43)) none, type := 119, pos := "slices.go:528", after := #[{ on := 4, ground := Ground.data }, { on := 5, ground := Ground.data }], guard := none }) (v := ?_) rfl (by kernel_rfl) (by kernel_rfl) (by kernel_rfl) (fun _ _ _ h => h) (Or.inl ⟨by kernel_rfl, ?_⟩) hHeld ?_
      rotate_left
      · (intro w hSw; (try dsimp only at hSw); go_simp); try with_reducible rfl
      try simp only [Act.put, List.setIfInBounds_toArray, List.set_cons_zero, List.set_cons_succ]
      refine wpAnyH_ready (rs := [7]) (by kernel_rfl) (by simp) (AllReadyH.cons (o := { dst := some 45, op := Op.call { callee := Callee.builtin Builtin.copy, args := #[Operand.tmp 41, Operand.tmp 44], argTypes := #[119, 119] }, type := 3, pos := "slices.go:528", after := #[{ on := 3, ground := Ground.data }, { on := 6, ground := Ground.data }], guard := none }) rfl (fun K hK => ?_) AllReadyH.nil)
      have hOld := hide hHeld
      clear hHeld
      go_simp
      (try simp only [hcp, Result.andThen])
      (try go_wp2_with fail)
      refine hK.out _ _ (trivial) (fun hHeld => ?_)
      clear hK K hOld
      try simp only [Act.put, List.setIfInBounds_toArray, List.set_cons_zero, List.set_cons_succ]
      refine wpAnyH_take (i := 8) (oi := { dst := some 46, op := Op.binOp BinOp.add 3 (Operand.tmp 38) (Operand.tmp 45) 3, type := 3, pos := "slices.go:528", after := #[{ on := 0, ground := Ground.data }, { on := 7, ground := Ground.data }], guard := none }) (v := ?_) rfl (by kernel_rfl) (by kernel_rfl) (by kernel_rfl) (fun _ _ _ h => h) (Or.inl ⟨by kernel_rfl, ?_⟩) hHeld ?_
      rotate_left
      · (intro w hSw; (try dsimp only at hSw); go_simp); try with_reducible rfl
      try simp only [Act.put, List.setIfInBounds_toArray, List.set_cons_zero, List.set_cons_succ]
      refine wpAnyH_take (i := 9) (oi := { dst := some 8, op := Op.assign (Operand.tmp 46), type := 3, pos := "slices.go:528", after := #[{ on := 8, ground := Ground.data }, { on := 7, ground := Ground.chain }, { on := 0, ground := Ground.phase }, { on := 1, ground := Ground.phase }, { on := 2, ground := Ground.phase }, { on := 3, ground := Ground.phase }, { on := 4, ground := Ground.phase }, { on := 5, ground := Ground.phase }, { on := 6, ground := Ground.phase }, { on := 7, ground := Ground.phase }, { on := 8, ground := Ground.phase }], guard := none }) (v := ?_) rfl (by kernel_rfl) (by kernel_rfl) (by kernel_rfl) (fun _ _ _ h => h) (Or.inl ⟨by kernel_rfl, ?_⟩) hHeld ?_
      rotate_left
      · (intro w hSw; (try dsimp only at hSw); go_simp); try with_reducible rfl
      try simp only [Act.put, List.setIfInBounds_toArray, List.set_cons_zero, List.set_cons_succ]
      refine wpAnyH_done (by kernel_rfl) ?_ _
      clear hHeld
      --END9
      go_wp2_with fail
      go_roundw
      case rel => exact ⟨j + k, by omega, hk3, by go_num, R3.out, B3.out⟩
      case measure => simp [intOf]; omega
    · obtain rfl : j = n := by omega
      have hr := RJ.out
      have hL : wayP j j x = (List.replicate j x).flatMap (pgC 0) := by unfold wayP; rw [Nat.sub_self, show manyP 0 pg0 = [] from rfl, List.append_nil]; rfl
      rw [hL] at hr
      have HR := hide (RwAt.of_flat hr)
      clear hr hL
      go_wp2_with fail
      go_ret
      exact ⟨w1.heap.size, rfl, Nat.le_refl _, HR.out, BJ.out⟩
end Go.Proofs.YtjfmkfhjbdiojaaGreat

namespace Go.Proofs.YtjfmkfhjbdiojaaGreat
set_option linter.unusedSimpArgs false
set_option linter.unusedVariables false
open Go.RowKit Go.WideShapes Go.ChangeShapes Go.ChangeAt Go.Deep

def rightS (b p s : Int) : Bool := decide (4 ≤ b ∧ b ≤ 256 ∧ 2 ≤ p ∧ p ≤ 64 ∧ 32 ≤ s ∧ s ≤ 1024)
theorem ret_bl {a b : Bool} (h : a = b) : Ending.returned (.bool a) = .returned (.bool b) := by rw [h]
set_option maxRecDepth 100000 in
set_option maxHeartbeats 400000 in
theorem right_any (b p s : Int) (w : World) :
    Calls Tryz.prog 40 #[.agg #[.int .i64 b, .int .i64 p, .int .i64 s]] w fun e w' => e = .returned (.bool (rightS b p s)) ∧ Below w.heap.size w w' := by
  obtain ⟨r, hr⟩ : ∃ r, rightS b p s = r := ⟨_, rfl⟩
  rw [hr]
  by_cases h0 : (4 : Int) ≤ b
  · by_cases h1 : b ≤ (256 : Int)
    · by_cases h2 : (2 : Int) ≤ p
      · by_cases h3 : p ≤ (64 : Int)
        · by_cases h4 : (32 : Int) ≤ s
          · by_cases h5 : s ≤ (1024 : Int)
            · have HE := hide (show true = r by rw [← hr]; simp [rightS, h0, h1, h2, h3, h4, h5])
              clear hr
              go_enter Tryz.func40, Tryz.ntmps40
              go_wp2_with fail
              go_ret
              exact ⟨ret_bl HE.out, (Below.refl _ _).alloc (Nat.le_refl _) _⟩
            · have HE := hide (show false = r by rw [← hr]; simp [rightS, h0, h1, h2, h3, h4, h5])
              clear hr
              go_enter Tryz.func40, Tryz.ntmps40
              go_wp2_with fail
              go_ret
              exact ⟨ret_bl HE.out, (Below.refl _ _).alloc (Nat.le_refl _) _⟩
          · have HE := hide (show false = r by rw [← hr]; simp [rightS, h0, h1, h2, h3, h4])
            clear hr
            go_enter Tryz.func40, Tryz.ntmps40
            go_wp2_with fail
            go_ret
            exact ⟨ret_bl HE.out, (Below.refl _ _).alloc (Nat.le_refl _) _⟩
        · have HE := hide (show false = r by rw [← hr]; simp [rightS, h0, h1, h2, h3])
          clear hr
          go_enter Tryz.func40, Tryz.ntmps40
          go_wp2_with fail
          go_ret
          exact ⟨ret_bl HE.out, (Below.refl _ _).alloc (Nat.le_refl _) _⟩
      · have HE := hide (show false = r by rw [← hr]; simp [rightS, h0, h1, h2])
        clear hr
        go_enter Tryz.func40, Tryz.ntmps40
        go_wp2_with fail
        go_ret
        exact ⟨ret_bl HE.out, (Below.refl _ _).alloc (Nat.le_refl _) _⟩
    · have HE := hide (show false = r by rw [← hr]; simp [rightS, h0, h1])
      clear hr
      go_enter Tryz.func40, Tryz.ntmps40
      go_wp2_with fail
      go_ret
      exact ⟨ret_bl HE.out, (Below.refl _ _).alloc (Nat.le_refl _) _⟩
  · have HE := hide (show false = r by rw [← hr]; simp [rightS, h0])
    clear hr
    go_enter Tryz.func40, Tryz.ntmps40
    go_wp2_with fail
    go_ret
    exact ⟨ret_bl HE.out, (Below.refl _ _).alloc (Nat.le_refl _) _⟩
theorem str_ne5 {a b : ByteArray} (h : ¬ a = b) : (a.toList == b.toList) = false := by
  rw [ByteArray.toList_eq, ByteArray.toList_eq, beq_eq_false_iff_ne]
  intro h2
  exact h (ByteArray.ext (Array.toList_inj.1 h2))
/-- what a page has whose program was cut -/
def tornP (S : ChipM) : Pg := if S.torn.size = 0 then S.blank else filledP S.size S.torn
theorem size_zero (t : ByteArray) (h : t.size = 0) : t = ⟨#[]⟩ := by
  obtain ⟨d⟩ := t
  have h2 : d.size = 0 := h
  rw [Array.eq_empty_of_size_eq_zero h2]
set_option maxRecDepth 100000 in
set_option maxHeartbeats 400000 in
theorem torn_any (p q B : Nat) (G : Nat → Nat) (S : ChipM) (hn : S.size ≤ 1024) (ht : S.torn.size ≤ 1000000) (w : World) (h : NandAt w p q B G S) :
    Calls Tryz.prog 122 #[.pointer (some ⟨p, 0, none⟩)] w fun e w' => e = .returned (.tuple #[.string (tornP S).1, .string (tornP S).2]) ∧ Below w.heap.size w w' := by
  have c0 : w.cell? ⟨p, 0, none⟩ = some (.int .i64 (S.L.length : Int)) := h.cell 0
  have c1 : w.cell? ⟨p, 1, none⟩ = some (.int .i64 (S.pgs : Int)) := h.cell 1
  have c2 : w.cell? ⟨p, 2, none⟩ = some (.int .i64 (S.size : Int)) := h.cell 2
  have c3 : w.cell? ⟨p, 3, none⟩ = some (.string S.blank.1) := h.cell 3
  have c4 : w.cell? ⟨p, 4, none⟩ = some (.string S.blank.2) := h.cell 4
  have c10 : w.cell? ⟨p, 10, none⟩ = some (.string S.torn) := h.cell 10
  have hpl := h.lt
  have HW := hide h
  by_cases hz : S.torn.size = 0
  · have HP := hide (show tornP S = S.blank by unfold tornP; rw [if_pos hz])
    rw [HP.out]
    rw [size_zero _ hz] at c10
    clear h
    go_enter Tryz.func122, Tryz.ntmps122
    go_wp2_with fail
    go_quiet (fail)
    go_wp2_with fail
    go_ret2
    exact ⟨rfl, below_drewN ((Below.refl _ _).alloc (Nat.le_refl _) _) _⟩
  · have HP := hide (show tornP S = filledP S.size S.torn by unfold tornP; rw [if_neg hz])
    rw [HP.out]
    have hne : S.torn.toList.isEmpty = false := by
      rw [ByteArray.toList_eq]
      cases hq : S.torn.data.toList with
      | nil =>
        have h1 : S.torn.data.toList.length = 0 := by rw [hq]; rfl
        rw [size_list] at h1
        exact absurd h1 hz
      | cons a l => rfl
    have HF := hide (fun W => filled_any (S.L.length : Int) (S.pgs : Int) S.size hn S.torn (by omega) ht W)
    clear h
    go_enter Tryz.func122, Tryz.ntmps122
    go_upto_region 3 with (fail)
    obtain ⟨ob, hob⟩ : ∃ ob, ob = Obj.cells #[.string S.blank.1, .string S.blank.2] 107 := ⟨_, rfl⟩
    rw [← hob]
    have hal := (Below.refl w.heap.size w).alloc (Nat.le_refl _) ob
    have HA := hide (HW.out.below hal)
    have YA := hide (heap_new w ob)
    have BA := hide hal.drew
    have hzz : (w.alloc ob).heap.size = w.heap.size + 1 := by simp
    clear hal
    generalize w.alloc ob = wa at *
    rw [hob] at YA
    clear hob
    have c0 : wa.cell? ⟨p, 0, none⟩ = some (.int .i64 (S.L.length : Int)) := HA.out.cell 0
    have c1 : wa.cell? ⟨p, 1, none⟩ = some (.int .i64 (S.pgs : Int)) := HA.out.cell 1
    have c2 : wa.cell? ⟨p, 2, none⟩ = some (.int .i64 (S.size : Int)) := HA.out.cell 2
    have c10 : wa.cell? ⟨p, 10, none⟩ = some (.string S.torn) := HA.out.cell 10
    go_still_tail 8, (by kernel_rfl)
    change wpList _ _ _ _ _ wa.drew
    go_wp2_with fail
    refine (HF.out _).mono ?_
    rintro e w2 ⟨rfl, hb⟩
    have YB := hide ((hb.block w.heap.size (by show _ < wa.heap.size; omega)).trans YA.out)
    have BB := hide (BA.out.trans (hb.mono (by show _ ≤ wa.heap.size; omega)))
    clear hb
    have y0 := cell_of_block YB.out 0
    have y1 := cell_of_block YB.out 1
    have g0 := frozen_of_block YB.out 0
    have g1 := frozen_of_block YB.out 1
    go_wp2_with fail
    go_quiet (fail)
    go_wp2_with fail
    go_ret2
    exact ⟨rfl, below_drewN ((BB.out.setCell (Nat.le_refl _) _).setCell (Nat.le_refl _) _) _⟩
end Go.Proofs.YtjfmkfhjbdiojaaGreat

namespace Go.Proofs.YtjfmkfhjbdiojaaGreat
set_option linter.unusedSimpArgs false
set_option linter.unusedVariables false
open Go.RowKit Go.WideShapes Go.ChangeShapes Go.ChangeAt Go.Deep

theorem put_put (S : ChipM) (k : Nat) (b c : BlkM) : (S.put k b).put k c = S.put k c := by unfold ChipM.put; simp [List.set_set]
theorem NandAt.setPage2 {w : World} {p q B : Nat} {G : Nat → Nat} {S : ChipM} (h : NandAt w p q B G S) (k : Nat) (hk : k < S.L.length) (i : Nat) (hi : i < S.pgs) (x : Pg) :
    NandAt ((w.setCell ⟨G k, i * 2, none⟩ (.string x.1)).setCell ⟨G k, i * 2 + 1, none⟩ (.string x.2)) p q B G (S.put k { S.blk k with pages := (S.blk k).pages.set i x }) := by
  have hil : i < (S.blk k).pages.length := by rw [h.len k hk]; exact hi
  have h1 := h.setPage k hk i hi 0 (by decide) (.string x.1) (x.1, ((S.blk k).pages.getD i pg0).2) rfl
  have hb := blk_put_self S k { S.blk k with pages := (S.blk k).pages.set i (x.1, ((S.blk k).pages.getD i pg0).2) } hk
  have h2 := h1.setPage k (by rw [put_length]; exact hk) i hi 1 (by decide) (.string x.2) x (by
    rw [hb]
    show _ = (pgC i (((S.blk k).pages.set i (x.1, ((S.blk k).pages.getD i pg0).2)).getD i pg0)).set 1 _
    rw [getD_set_self _ _ _ _ hil]
    rfl)
  rw [hb, put_put] at h2
  have he : ((S.blk k).pages.set i (x.1, ((S.blk k).pages.getD i pg0).2)).set i x = (S.blk k).pages.set i x := by simp [List.set_set]
  show NandAt _ p q B G (S.put k { S.blk k with pages := (S.blk k).pages.set i x })
  rw [← he]
  exact h2
theorem NandAt.turnPage2 {w : World} {p q B : Nat} {G : Nat → Nat} {S : ChipM} (h : NandAt w p q B G S) (k : Nat) (hk : k < S.L.length) (i : Nat) (hi : i < S.pgs) (u v : ByteArray) :
    Turn B w ((w.setCell ⟨G k, i * 2, none⟩ (.string u)).setCell ⟨G k, i * 2 + 1, none⟩ (.string v)) := by
  have h1 := h.setPage k hk i hi 0 (by decide) (.string u) (u, ((S.blk k).pages.getD i pg0).2) rfl
  exact (h.turnPage k hk (i * 2) (.string u)).trans (h1.turnPage k (by rw [put_length]; exact hk) (i * 2 + 1) (.string v))
/-- numbers stay small -/
structure NandOk (S : ChipM) : Prop where
  size : S.size ≤ 1024
  torn : S.torn.size ≤ 1000000
  progs : 0 ≤ S.progs ∧ S.progs ≤ 1000000
  eras : 0 ≤ S.eras ∧ S.eras ≤ 1000000
  sins : 0 ≤ S.sins ∧ S.sins ≤ 1000000
  fuse : 0 ≤ S.fuse ∧ S.fuse ≤ 9223372036854775807
def zeroB : ByteArray := ⟨#[0]⟩
/-- what Program turns, where nothing stands against it -/
def progS (S : ChipM) (k i : Nat) (d e : ByteArray) : ChipM :=
  let S2 := cutS (progsS (S.put k { S.blk k with next := (i : Int) + 1 }))
  if S.fuse = 1 then S2.put k { S2.blk k with pages := (S2.blk k).pages.set i (tornP S2) }
  else if (S.blk k).weak = true then S2.put k { S2.blk k with pages := (S2.blk k).pages.set i (filledP S.size zeroB), failed := true }
  else S2.put k { S2.blk k with pages := (S2.blk k).pages.set i (d, e) }
def progE (S : ChipM) (k : Nat) : Int := if S.fuse = 1 then 9 else if (S.blk k).weak = true then 10 else 0
def progT (S : ChipM) (b i : Int) (d e : ByteArray) : ChipM × Int :=
  if askE S b i ≠ 0 then (S, askE S b i) else if d.size ≠ S.size ∨ e.size ≠ 32 then (S, 2)
  else if sinE (S.blk b.toNat) (decide (i ≠ (S.blk b.toNat).next)) ≠ 0 then (sinS S b.toNat (decide (i ≠ (S.blk b.toNat).next)), sinE (S.blk b.toNat) (decide (i ≠ (S.blk b.toNat).next)))
  else (progS S b.toNat i.toNat d e, progE S b.toNat)
theorem cut_blk (S : ChipM) (k : Nat) : (cutS S).blk k = S.blk k := by unfold cutS; split <;> rfl
theorem cut_len (S : ChipM) : (cutS S).L = S.L := by unfold cutS; split <;> rfl
theorem cut_pgs (S : ChipM) : (cutS S).pgs = S.pgs := by unfold cutS; split <;> rfl
theorem cut_size (S : ChipM) : (cutS S).size = S.size := by unfold cutS; split <;> rfl
theorem cut_torn (S : ChipM) : (cutS S).torn = S.torn := by unfold cutS; split <;> rfl
set_option maxRecDepth 100000 in
set_option maxHeartbeats 2000000 in
theorem program_go (p q B : Nat) (G : Nat → Nat) (S : ChipM) (hS : NandOk S) (k i : Nat) (d e : ByteArray) (w : World) (h : NandAt w p q B G S) (ha : askE S (k : Int) (i : Int) = 0) (hd : d.size = S.size) (he : e.size = 32) (hf : (S.blk k).failed = false) (hm : (S.blk k).mill = false) (hnx : (S.blk k).next = (i : Int)) :
    Calls Tryz.prog 96 #[.pointer (some ⟨p, 0, none⟩), .int .i64 (k : Int), .int .i64 (i : Int), .string d, .string e] w (NandIs p q B G (progS S k i d e) (.int .i64 (progE S k)) w) := by
  obtain ⟨ho, -, hk', -, hi'⟩ := askE_in ha
  have hk : k < S.L.length := by omega
  have hi : i < S.pgs := by omega
  have hp64 := h.few.2
  have HASK := hide (ask_any p q B G S (k : Int) (i : Int) w h)
  rw [ha] at HASK
  have HAT := hide (at_yes p q B G S k hk w h)
  have HSIN := hide (sin_any p q B G S k hk false hS.sins.1 (by have := hS.sins.2; omega) w h)
  have hE : sinE (S.blk k) false = 0 := by unfold sinE; rw [hf, hm]; simp
  rw [show sinS S k false = S by unfold sinS; rw [if_pos hE], hE] at HSIN
  have c2 : w.cell? ⟨p, 2, none⟩ = some (.int .i64 (S.size : Int)) := h.cell 2
  have d1 : w.cell? ⟨q, k * 6 + 1, none⟩ = some (.int .i64 (i : Int)) := by rw [← hnx]; exact h.slot k hk 1 (by decide)
  have hdI : (d.size : Int) = (S.size : Int) := by rw [hd]
  have heI : (e.size : Int) = 32 := by rw [he]; rfl
  have HH := hide h
  have HOK := hide hS
  clear h ha hS
  go_enter Tryz.func96, Tryz.ntmps96
  go_wp2_with fail
  refine HASK.out.mono ?_
  rintro e0 w1 ⟨rfl, rfl⟩
  go_wp2_with fail
  refine HAT.out.mono ?_
  rintro e0 w1 ⟨rfl, rfl⟩
  go_wp2_with fail
  refine HSIN.out.mono ?_
  rintro e0 w2 ⟨rfl, hn, ht⟩
  have N2 := hide hn
  have T2 := hide ht
  clear hn ht HASK HAT HSIN c2 d1
  have d0 : w2.cell? ⟨q, k * 6, none⟩ = some (.slice (some ⟨G k, 0, none⟩) S.pgs S.pgs) := by
    have := N2.out.slot k hk 0 (by decide)
    rw [Nat.add_zero] at this
    rw [this, ← N2.out.len k hk]; rfl
  have d1 : w2.cell? ⟨q, k * 6 + 1, none⟩ = some (.int .i64 (i : Int)) := by rw [← hnx]; exact N2.out.slot k hk 1 (by decide)
  have f1 := N2.out.row.free (k * 6 + 1)
  have N3 := hide (N2.out.setBlk k hk 1 (by decide) (.int .i64 ((i : Int) + 1)) { S.blk k with next := (i : Int) + 1 } rfl rfl)
  have T3 := hide (T2.out.trans (N2.out.turnBlk (k * 6 + 1) (.int .i64 ((i : Int) + 1))))
  go_wp2_with fail
  clear d0 d1 f1 N2 T2
  generalize w2.setCell ⟨q, k * 6 + 1, none⟩ (.int .i64 ((i : Int) + 1)) = w3 at *
  have HC := hide (cut_progs p q B G (S.put k { S.blk k with next := (i : Int) + 1 }) HOK.out.progs.1 (by have := HOK.out.progs.2; show S.progs ≤ _; omega) HOK.out.fuse.1 HOK.out.fuse.2 w3 N3.out)
  obtain ⟨S3, hS3⟩ : ∃ S3, S3 = cutS (progsS (S.put k { S.blk k with next := (i : Int) + 1 })) := ⟨_, rfl⟩
  have hb3 : S3.blk k = { S.blk k with next := (i : Int) + 1 } := by
    rw [hS3, cut_blk]
    exact blk_put_self S k _ hk
  have hl3 : S3.L.length = S.L.length := by rw [hS3, cut_len]; exact put_length S k _
  have hg3 : S3.pgs = S.pgs := by rw [hS3, cut_pgs]; rfl
  have hz3 : S3.size = S.size := by rw [hS3, cut_size]; rfl
  have ht3 : S3.torn = S.torn := by rw [hS3, cut_torn]; rfl
  have HPS := hide (show progS S k i d e = if S.fuse = 1 then S3.put k { S3.blk k with pages := (S3.blk k).pages.set i (tornP S3) }
    else if (S.blk k).weak = true then S3.put k { S3.blk k with pages := (S3.blk k).pages.set i (filledP S.size zeroB), failed := true }
    else S3.put k { S3.blk k with pages := (S3.blk k).pages.set i (d, e) } by rw [hS3]; rfl)
  have HPE := hide (show progE S k = if S.fuse = 1 then 9 else if (S.blk k).weak = true then 10 else 0 from rfl)
  rw [show cutS (progsS (S.put k { S.blk k with next := (i : Int) + 1 })) = S3 from hS3.symm] at HC
  rw [show (S.put k { S.blk k with next := (i : Int) + 1 }).fuse = S.fuse from rfl] at HC
  have HB3 := hide hb3
  have HWK := hide (show (S3.blk k).weak = (S.blk k).weak by rw [hb3])
  have hk3 : k < S3.L.length := by omega
  have hi3 : i < S3.pgs := by omega
  clear hS3 hb3
  by_cases hfz : S.fuse = 1
  · rw [decide_eq_true hfz] at HC
    refine HC.out.mono ?_
    rintro e0 w4 ⟨rfl, hn, ht⟩
    have N4 := hide hn
    have T4 := hide (T3.out.trans ht)
    clear hn ht HC N3 T3
    go_wp2_with fail
    refine (torn_any p q B G S3 (by have := HOK.out.size; omega) (by rw [ht3]; exact HOK.out.torn) w4 N4.out).mono ?_
    rintro e0 w5 ⟨rfl, hb⟩
    have N5 := hide (N4.out.below hb)
    have T5 := hide (T4.out.trans (Turn.of_below hb N4.out.size))
    clear hb N4 T4
    have e0 := N5.out.leaf k hk3 i hi3 0 (by decide)
    have e1 := N5.out.leaf k hk3 i hi3 1 (by decide)
    simp only [pgC, List.getElem?_cons_zero, List.getElem?_cons_succ, Nat.add_zero] at e0 e1
    have g0 := (N5.out.page k hk3).free (i * 2)
    have g1 := (N5.out.page k hk3).free (i * 2 + 1)
    have N6 := hide (N5.out.setPage2 k hk3 i hi3 (tornP S3))
    have T6 := hide (T5.out.trans (N5.out.turnPage2 k hk3 i hi3 (tornP S3).1 (tornP S3).2))
    go_wp2_with fail
    go_ret
    refine ⟨ret_int (by rw [HPE.out, if_pos hfz]), ?_, T6.out⟩
    rw [HPS.out, if_pos hfz]
    exact N6.out
  · rw [decide_eq_false hfz] at HC
    refine HC.out.mono ?_
    rintro e0 w4 ⟨rfl, hn, ht⟩
    have N4 := hide hn
    have T4 := hide (T3.out.trans ht)
    clear hn ht HC N3 T3
    have d4 : w4.cell? ⟨q, k * 6 + 4, none⟩ = some (.bool (S.blk k).weak) := by rw [← HWK.out]; exact N4.out.slot k hk3 4 (by decide)
    have e0 := N4.out.leaf k hk3 i hi3 0 (by decide)
    have e1 := N4.out.leaf k hk3 i hi3 1 (by decide)
    simp only [pgC, List.getElem?_cons_zero, List.getElem?_cons_succ, Nat.add_zero] at e0 e1
    have g0 := (N4.out.page k hk3).free (i * 2)
    have g1 := (N4.out.page k hk3).free (i * 2 + 1)
    cases hwk : (S.blk k).weak with
    | true =>
      rw [hwk] at d4
      have c0 : w4.cell? ⟨p, 0, none⟩ = some (.int .i64 (S3.L.length : Int)) := N4.out.cell 0
      have c1 : w4.cell? ⟨p, 1, none⟩ = some (.int .i64 (S3.pgs : Int)) := N4.out.cell 1
      have c2 : w4.cell? ⟨p, 2, none⟩ = some (.int .i64 (S3.size : Int)) := N4.out.cell 2
      have HF := hide (fun W => filled_any (S.L.length : Int) (S.pgs : Int) S.size HOK.out.size zeroB (by decide) (by decide) W)
      rw [show zeroB = ⟨#[0]⟩ from rfl] at HF
      go_wp2_with fail
      refine (HF.out _).mono ?_
      rintro e0 w5 ⟨rfl, hb⟩
      have N5 := hide (N4.out.below hb)
      have T5 := hide (T4.out.trans (Turn.of_below hb N4.out.size))
      clear hb N4 T4 d4 e0 e1 g0 g1 c0 c1 c2
      go_upto_region 17 with (fail)
      have HZ := hide (show filledP S.size zeroB = filledP S.size ⟨#[0]⟩ from rfl)
      generalize filledP S.size ⟨#[0]⟩ = z at *
      obtain ⟨z1, z2⟩ := z
      dsimp only at *
      obtain ⟨ob, hob⟩ : ∃ ob, ob = Obj.cells #[.string z1, .string z2] 107 := ⟨_, rfl⟩
      rw [← hob]
      have hal := (Below.refl w5.heap.size w5).alloc (Nat.le_refl _) ob
      have NA := hide (N5.out.below hal).drew
      have TA := hide ((T5.out.trans (Turn.of_below hal N5.out.size)).drew)
      have XB0 := hide (show (w5.alloc ob).drew.heap[w5.heap.size]? = some ob from heap_new w5 ob)
      have HGX := hide (show G k ≠ w5.heap.size from Nat.ne_of_lt (N5.out.page k hk3).lt)
      have HQX := hide (show q ≠ w5.heap.size from Nat.ne_of_lt N5.out.row.lt)
      clear hal N5 T5
      generalize w5.alloc ob = wa at *
      generalize w5.heap.size = xb at *
      rw [hob] at XB0
      clear hob
      have hgq : ¬ G k = q := NA.out.gq k hk3
      have hqg : ¬ q = G k := fun h => hgq h.symm
      have e0 := NA.out.leaf k hk3 i hi3 0 (by decide)
      have e1 := NA.out.leaf k hk3 i hi3 1 (by decide)
      simp only [pgC, List.getElem?_cons_zero, List.getElem?_cons_succ, Nat.add_zero] at e0 e1
      have g0 := (NA.out.page k hk3).free (i * 2)
      have g1 := (NA.out.page k hk3).free (i * 2 + 1)
      have d5 : wa.drew.cell? ⟨q, k * 6 + 5, none⟩ = some (.bool (S3.blk k).failed) := NA.out.slot k hk3 5 (by decide)
      have f5 := NA.out.row.free (k * 6 + 5)
      --BEGIN17
      refine wp_region_held_drew (S := (fun W => W.cell? ⟨xb, 0, none⟩ = some (.string z1) ∧ W.cell? ⟨xb, 1, none⟩ = some (.string z2))) (by kernel_rfl) (⟨cell_of_block XB0.out 0, cell_of_block XB0.out 1⟩) (fun hHeld => ?_)
      generalize wa.drew = v0 at *
      refine wpAnyH_take (i := 0) (oi := { dst := some 88, op := Op.move (Operand.tmp 14), type := 200, pos := "nand.go:147", after := #[], guard := none }) (v := ?_) rfl (by kernel_rfl) (by kernel_rfl) (by kernel_rfl) (fun _ _ _ h => h) (Or.inl ⟨by kernel_rfl, ?_⟩) hHeld ?_
      rotate_left
      · (intro w hSw; (try dsimp only at hSw); go_simp); try with_reducible rfl
      try simp only [Act.put, List.setIfInBounds_toArray, List.set_cons_zero, List.set_cons_succ]
      refine wpAnyH_take (i := 1) (oi := { dst := some 89, op := Op.move (Operand.tmp 14), type := 200, pos := "nand.go:147", after := #[{ on := 9, ground := Ground.gcOnly Departure.lateStores }], guard := none }) (v := ?_) rfl (by kernel_rfl) (by kernel_rfl) (by kernel_rfl) (fun _ _ _ h => h) (Or.inl ⟨by kernel_rfl, ?_⟩) hHeld ?_
      rotate_left
      · (intro w hSw; (try dsimp only at hSw); go_simp); try with_reducible rfl
      try simp only [Act.put, List.setIfInBounds_toArray, List.set_cons_zero, List.set_cons_succ]
      refine wpAnyH_take (i := 2) (oi := { dst := some 90, op := Op.move (Operand.tmp 12), type := 123, pos := "nand.go:147", after := #[{ on := 12, ground := Ground.gcOnly Departure.lateStores }], guard := none }) (v := ?_) rfl (by kernel_rfl) (by kernel_rfl) (by kernel_rfl) (fun _ _ _ h => h) (Or.inl ⟨by kernel_rfl, ?_⟩) hHeld ?_
      rotate_left
      · (intro w hSw; (try dsimp only at hSw); go_simp); try with_reducible rfl
      try simp only [Act.put, List.setIfInBounds_toArray, List.set_cons_zero, List.set_cons_succ]
      refine wpAnyH_take (i := 3) (oi := { dst := some 91, op := Op.fieldAddr 107 (Operand.tmp 15) 0, type := 0, pos := "nand.go:147", after := #[], guard := none }) (v := ?_) rfl (by kernel_rfl) (by kernel_rfl) (by kernel_rfl) (fun _ _ _ h => h) (Or.inl ⟨by kernel_rfl, ?_⟩) hHeld ?_
      rotate_left
      · (intro w hSw; (try dsimp only at hSw); go_simp); try with_reducible rfl
      try simp only [Act.put, List.setIfInBounds_toArray, List.set_cons_zero, List.set_cons_succ]
      refine wpAnyH_take (i := 4) (oi := { dst := some 92, op := Op.load 9 (Operand.tmp 91), type := 9, pos := "nand.go:147", after := #[{ on := 3, ground := Ground.data }], guard := none }) (v := ?_) rfl (by kernel_rfl) (by kernel_rfl) (by kernel_rfl) (fun _ _ _ h => h) (Or.inl ⟨by kernel_rfl, ?_⟩) hHeld ?_
      rotate_left
      · (intro w hSw; (try dsimp only at hSw); go_simp); try with_reducible rfl
      try simp only [Act.put, List.setIfInBounds_toArray, List.set_cons_zero, List.set_cons_succ]
      refine wpAnyH_take (i := 5) (oi := { dst := some 93, op := Op.fieldAddr 107 (Operand.tmp 15) 1, type := 0, pos := "nand.go:147", after := #[{ on := 9, ground := Ground.gcOnly Departure.lateStores }], guard := none }) (v := ?_) rfl (by kernel_rfl) (by kernel_rfl) (by kernel_rfl) (fun _ _ _ h => h) (Or.inl ⟨by kernel_rfl, ?_⟩) hHeld ?_
      rotate_left
      · (intro w hSw; (try dsimp only at hSw); go_simp); try with_reducible rfl
      try simp only [Act.put, List.setIfInBounds_toArray, List.set_cons_zero, List.set_cons_succ]
      refine wpAnyH_take (i := 6) (oi := { dst := some 94, op := Op.load 9 (Operand.tmp 93), type := 9, pos := "nand.go:147", after := #[{ on := 5, ground := Ground.data }, { on := 9, ground := Ground.gcOnly Departure.lateStores }], guard := none }) (v := ?_) rfl (by kernel_rfl) (by kernel_rfl) (by kernel_rfl) (fun _ _ _ h => h) (Or.inl ⟨by kernel_rfl, ?_⟩) hHeld ?_
      rotate_left
      · (intro w hSw; (try dsimp only at hSw); go_simp); try with_reducible rfl
      try simp only [Act.put, List.setIfInBounds_toArray, List.set_cons_zero, List.set_cons_succ]
      refine wpAnyH_take (i := 7) (oi := { dst := some 95, op := Op.nilCheck (Operand.tmp 88), type := 0, pos := "nand.go:147", after := #[{ on := 0, ground := Ground.data }, { on := 0, ground := Ground.phase }, { on := 1, ground := Ground.textOnly Departure.lateStores }, { on := 2, ground := Ground.textOnly Departure.lateStores }, { on := 3, ground := Ground.phase }, { on := 4, ground := Ground.phase }, { on := 5, ground := Ground.textOnly Departure.lateStores }, { on := 6, ground := Ground.textOnly Departure.lateStores }], guard := none }) (v := ?_) rfl (by kernel_rfl) (by kernel_rfl) (by kernel_rfl) (fun _ _ _ h => h) (Or.inl ⟨by kernel_rfl, ?_⟩) hHeld ?_
      rotate_left
      · (intro w hSw; (try dsimp only at hSw); go_simp); try with_reducible rfl
      try simp only [Act.put, List.setIfInBounds_toArray, List.set_cons_zero, List.set_cons_succ]
      refine wpAnyH_take (i := 8) (oi := { dst := some 96, op := Op.fieldAddr 107 (Operand.tmp 95) 0, type := 0, pos := "nand.go:147", after := #[{ on := 7, ground := Ground.data }, { on := 0, ground := Ground.phase }, { on := 1, ground := Ground.textOnly Departure.lateStores }, { on := 2, ground := Ground.textOnly Departure.lateStores }, { on := 3, ground := Ground.phase }, { on := 4, ground := Ground.phase }, { on := 5, ground := Ground.textOnly Departure.lateStores }, { on := 6, ground := Ground.textOnly Departure.lateStores }], guard := none }) (v := ?_) rfl (by kernel_rfl) (by kernel_rfl) (by kernel_rfl) (fun _ _ _ h => h) (Or.inl ⟨by kernel_rfl, ?_⟩) hHeld ?_
      rotate_left
      · (intro w hSw; (try dsimp only at hSw); go_simp); try with_reducible rfl
      try simp only [Act.put, List.setIfInBounds_toArray, List.set_cons_zero, List.set_cons_succ]
      refine wpAnyH_ready (rs := [9]) (by kernel_rfl) (by simp) (AllReadyH.cons (o := { dst := none, op := Op.store 9 (Operand.tmp 96) (Operand.tmp 92), type := 0, pos := "nand.go:147", after := #[{ on := 8, ground := Ground.data }, { on := 4, ground := Ground.data }, { on := 0, ground := Ground.phase }, { on := 1, ground := Ground.textOnly Departure.lateStores }, { on := 2, ground := Ground.textOnly Departure.lateStores }, { on := 3, ground := Ground.phase }, { on := 4, ground := Ground.phase }, { on := 5, ground := Ground.textOnly Departure.lateStores }, { on := 6, ground := Ground.textOnly Departure.lateStores }], guard := none }) rfl (fun K hK => ?_) AllReadyH.nil)
      have hOld := hide hHeld
      clear hHeld
      go_simp
      have XB9 := hide ((block_setCell_other HGX.out (i * 2) (.string z1)).trans XB0.out)
      (try go_wp2_with fail)
      refine hK.out _ _ (⟨cell_of_block XB9.out 0, cell_of_block XB9.out 1⟩) (fun hHeld => ?_)
      clear hK K hOld
      try simp only [Act.put, List.setIfInBounds_toArray, List.set_cons_zero, List.set_cons_succ]
      refine wpAnyH_take (i := 10) (oi := { dst := some 97, op := Op.nilCheck (Operand.tmp 89), type := 0, pos := "nand.go:147", after := #[{ on := 1, ground := Ground.data }, { on := 0, ground := Ground.phase }, { on := 1, ground := Ground.phase }, { on := 2, ground := Ground.textOnly Departure.lateStores }, { on := 3, ground := Ground.phase }, { on := 4, ground := Ground.phase }, { on := 5, ground := Ground.phase }, { on := 6, ground := Ground.phase }, { on := 7, ground := Ground.phase }, { on := 8, ground := Ground.phase }, { on := 9, ground := Ground.phase }], guard := none }) (v := ?_) rfl (by kernel_rfl) (by kernel_rfl) (by kernel_rfl) (fun _ _ _ h => h) (Or.inl ⟨by kernel_rfl, ?_⟩) hHeld ?_
      rotate_left
      · (intro w hSw; (try dsimp only at hSw); go_simp); try with_reducible rfl
      try simp only [Act.put, List.setIfInBounds_toArray, List.set_cons_zero, List.set_cons_succ]
      refine wpAnyH_take (i := 11) (oi := { dst := some 98, op := Op.fieldAddr 107 (Operand.tmp 97) 1, type := 0, pos := "nand.go:147", after := #[{ on := 10, ground := Ground.data }, { on := 0, ground := Ground.phase }, { on := 1, ground := Ground.phase }, { on := 2, ground := Ground.textOnly Departure.lateStores }, { on := 3, ground := Ground.phase }, { on := 4, ground := Ground.phase }, { on := 5, ground := Ground.phase }, { on := 6, ground := Ground.phase }, { on := 7, ground := Ground.phase }, { on := 8, ground := Ground.phase }, { on := 9, ground := Ground.phase }], guard := none }) (v := ?_) rfl (by kernel_rfl) (by kernel_rfl) (by kernel_rfl) (fun _ _ _ h => h) (Or.inl ⟨by kernel_rfl, ?_⟩) hHeld ?_
      rotate_left
      · (intro w hSw; (try dsimp only at hSw); go_simp); try with_reducible rfl
      try simp only [Act.put, List.setIfInBounds_toArray, List.set_cons_zero, List.set_cons_succ]
      refine wpAnyH_ready (rs := [12]) (by kernel_rfl) (by simp) (AllReadyH.cons (o := { dst := none, op := Op.store 9 (Operand.tmp 98) (Operand.tmp 94), type := 0, pos := "nand.go:147", after := #[{ on := 11, ground := Ground.data }, { on := 6, ground := Ground.data }, { on := 9, ground := Ground.chain }, { on := 0, ground := Ground.phase }, { on := 1, ground := Ground.phase }, { on := 2, ground := Ground.textOnly Departure.lateStores }, { on := 3, ground := Ground.phase }, { on := 4, ground := Ground.phase }, { on := 5, ground := Ground.phase }, { on := 6, ground := Ground.phase }, { on := 7, ground := Ground.phase }, { on := 8, ground := Ground.phase }, { on := 9, ground := Ground.phase }], guard := none }) rfl (fun K hK => ?_) AllReadyH.nil)
      have hOld := hide hHeld
      clear hHeld
      go_simp
      have XB12 := hide ((block_setCell_other HGX.out (i * 2 + 1) (.string z2)).trans XB9.out)
      (try go_wp2_with fail)
      refine hK.out _ _ (⟨cell_of_block XB12.out 0, cell_of_block XB12.out 1⟩) (fun hHeld => ?_)
      clear hK K hOld
      try simp only [Act.put, List.setIfInBounds_toArray, List.set_cons_zero, List.set_cons_succ]
      refine wpAnyH_take (i := 13) (oi := { dst := some 99, op := Op.nilCheck (Operand.tmp 90), type := 0, pos := "nand.go:147", after := #[{ on := 2, ground := Ground.data }, { on := 0, ground := Ground.phase }, { on := 1, ground := Ground.phase }, { on := 2, ground := Ground.phase }, { on := 3, ground := Ground.phase }, { on := 4, ground := Ground.phase }, { on := 5, ground := Ground.phase }, { on := 6, ground := Ground.phase }, { on := 7, ground := Ground.phase }, { on := 8, ground := Ground.phase }, { on := 9, ground := Ground.phase }, { on := 10, ground := Ground.phase }, { on := 11, ground := Ground.phase }, { on := 12, ground := Ground.phase }], guard := none }) (v := ?_) rfl (by kernel_rfl) (by kernel_rfl) (by kernel_rfl) (fun _ _ _ h => h) (Or.inl ⟨by kernel_rfl, ?_⟩) hHeld ?_
      rotate_left
      · (intro w hSw; (try dsimp only at hSw); go_simp); try with_reducible rfl
      try simp only [Act.put, List.setIfInBounds_toArray, List.set_cons_zero, List.set_cons_succ]
      refine wpAnyH_take (i := 14) (oi := { dst := some 100, op := Op.fieldAddr 122 (Operand.tmp 99) 5, type := 0, pos := "nand.go:147", after := #[{ on := 13, ground := Ground.data }, { on := 0, ground := Ground.phase }, { on := 1, ground := Ground.phase }, { on := 2, ground := Ground.phase }, { on := 3, ground := Ground.phase }, { on := 4, ground := Ground.phase }, { on := 5, ground := Ground.phase }, { on := 6, ground := Ground.phase }, { on := 7, ground := Ground.phase }, { on := 8, ground := Ground.phase }, { on := 9, ground := Ground.phase }, { on := 10, ground := Ground.phase }, { on := 11, ground := Ground.phase }, { on := 12, ground := Ground.phase }], guard := none }) (v := ?_) rfl (by kernel_rfl) (by kernel_rfl) (by kernel_rfl) (fun _ _ _ h => h) (Or.inl ⟨by kernel_rfl, ?_⟩) hHeld ?_
      rotate_left
      · (intro w hSw; (try dsimp only at hSw); go_simp); try with_reducible rfl
      try simp only [Act.put, List.setIfInBounds_toArray, List.set_cons_zero, List.set_cons_succ]
      refine wpAnyH_ready (rs := [15]) (by kernel_rfl) (by simp) (AllReadyH.cons (o := { dst := none, op := Op.store 4 (Operand.tmp 100) (Operand.const (Value.bool true)), type := 0, pos := "nand.go:147", after := #[{ on := 14, ground := Ground.data }, { on := 12, ground := Ground.chain }, { on := 0, ground := Ground.phase }, { on := 1, ground := Ground.phase }, { on := 2, ground := Ground.phase }, { on := 3, ground := Ground.phase }, { on := 4, ground := Ground.phase }, { on := 5, ground := Ground.phase }, { on := 6, ground := Ground.phase }, { on := 7, ground := Ground.phase }, { on := 8, ground := Ground.phase }, { on := 9, ground := Ground.phase }, { on := 10, ground := Ground.phase }, { on := 11, ground := Ground.phase }, { on := 12, ground := Ground.phase }], guard := none }) rfl (fun K hK => ?_) AllReadyH.nil)
      have hOld := hide hHeld
      clear hHeld
      go_simp
      have XB15 := hide ((block_setCell_other HQX.out (k * 6 + 5) (.bool true)).trans XB12.out)
      (try go_wp2_with fail)
      refine hK.out _ _ (⟨cell_of_block XB15.out 0, cell_of_block XB15.out 1⟩) (fun hHeld => ?_)
      clear hK K hOld
      try simp only [Act.put, List.setIfInBounds_toArray, List.set_cons_zero, List.set_cons_succ]
      refine wpAnyH_done (by kernel_rfl) ?_ _
      clear hHeld
      --END17
      have N6 := NA.out.setPage2 k hk3 i hi3 (z1, z2)
      have hb6 := blk_put_self S3 k { S3.blk k with pages := (S3.blk k).pages.set i (z1, z2) } hk3
      have N7 := N6.setBlk k (by rw [put_length]; exact hk3) 5 (by decide) (.bool true) { S3.blk k with pages := (S3.blk k).pages.set i (z1, z2), failed := true } (by rw [hb6]) (by rw [hb6]; rfl)
      rw [put_put] at N7
      have HN7 := hide N7
      have T6 := hide ((TA.out.trans (NA.out.turnPage2 k hk3 i hi3 z1 z2)).trans (N6.turnBlk (k * 6 + 5) (.bool true)))
      clear N6 N7 hb6
      go_wp2_with fail
      go_ret
      refine ⟨ret_int (by rw [HPE.out, if_neg hfz, hwk, if_pos rfl]), ?_, T6.out⟩
      rw [HPS.out, if_neg hfz, hwk, if_pos rfl, HZ.out]
      exact HN7.out
    | false =>
      rw [hwk] at d4
      have N6 := hide (N4.out.setPage2 k hk3 i hi3 (d, e))
      have T6 := hide (T4.out.trans (N4.out.turnPage2 k hk3 i hi3 d e))
      go_wp2_with fail
      go_ret
      refine ⟨ret_int (by rw [HPE.out, if_neg hfz, hwk, if_neg (by decide)]), ?_, T6.out⟩
      rw [HPS.out, if_neg hfz, hwk, if_neg (by decide)]
      exact N6.out
end Go.Proofs.YtjfmkfhjbdiojaaGreat

namespace Go.Proofs.YtjfmkfhjbdiojaaGreat
set_option linter.unusedSimpArgs false
set_option linter.unusedVariables false
open Go.RowKit Go.WideShapes Go.ChangeShapes Go.ChangeAt Go.Deep

theorem program_nil (b i : Int) (d e : ByteArray) (w : World) : Calls Tryz.prog 96 #[.pointer none, .int .i64 b, .int .i64 i, .string d, .string e] w fun e w' => e = .returned (.int .i64 1) ∧ w = w' := by
  go_enter Tryz.func96, Tryz.ntmps96
  go_wp2_with fail
  refine (ask_nil b i w).mono ?_
  rintro e0 w1 ⟨rfl, rfl⟩
  go_wp2_with fail
  go_ret
  exact ⟨rfl, rfl⟩
theorem program_ask (p q B : Nat) (G : Nat → Nat) (S : ChipM) (b i : Int) (d e : ByteArray) (w : World) (h : NandAt w p q B G S) (ha : askE S b i ≠ 0) :
    Calls Tryz.prog 96 #[.pointer (some ⟨p, 0, none⟩), .int .i64 b, .int .i64 i, .string d, .string e] w (NandIs p q B G S (.int .i64 (askE S b i)) w) := by
  have HASK := hide (ask_any p q B G S b i w h)
  have HH := hide h
  clear h
  generalize askE S b i = ae at *
  go_enter Tryz.func96, Tryz.ntmps96
  go_wp2_with fail
  refine HASK.out.mono ?_
  rintro e0 w1 ⟨rfl, rfl⟩
  go_wp2_with fail
  go_ret
  exact ⟨rfl, HH.out, Turn.refl _ _⟩
theorem program_arg (p q B : Nat) (G : Nat → Nat) (S : ChipM) (b i : Int) (d e : ByteArray) (w : World) (h : NandAt w p q B G S) (ha : askE S b i = 0) (hd : d.size ≠ S.size ∨ e.size ≠ 32) :
    Calls Tryz.prog 96 #[.pointer (some ⟨p, 0, none⟩), .int .i64 b, .int .i64 i, .string d, .string e] w (NandIs p q B G S (.int .i64 2) w) := by
  have HASK := hide (ask_any p q B G S b i w h)
  rw [ha] at HASK
  have HH := hide h
  have c2 : w.cell? ⟨p, 2, none⟩ = some (.int .i64 (S.size : Int)) := h.cell 2
  clear h ha
  by_cases h1 : d.size = S.size
  · have h2 : ¬ e.size = 32 := by rcases hd with hd | hd; exact absurd h1 hd; exact hd
    have hdI : (d.size : Int) = (S.size : Int) := by rw [h1]
    have heI : ¬ (e.size : Int) = 32 := by omega
    clear hd h1 h2
    go_enter Tryz.func96, Tryz.ntmps96
    go_wp2_with fail
    refine HASK.out.mono ?_
    rintro e0 w1 ⟨rfl, rfl⟩
    go_wp2_with fail
    go_ret
    exact ⟨rfl, HH.out, Turn.refl _ _⟩
  · have hdI : ¬ (d.size : Int) = (S.size : Int) := by omega
    clear hd h1
    go_enter Tryz.func96, Tryz.ntmps96
    go_wp2_with fail
    refine HASK.out.mono ?_
    rintro e0 w1 ⟨rfl, rfl⟩
    go_wp2_with fail
    go_ret
    exact ⟨rfl, HH.out, Turn.refl _ _⟩
set_option maxRecDepth 100000 in
set_option maxHeartbeats 400000 in
theorem program_sin (p q B : Nat) (G : Nat → Nat) (S : ChipM) (hS : NandOk S) (k i : Nat) (d e : ByteArray) (w : World) (h : NandAt w p q B G S) (ha : askE S (k : Int) (i : Int) = 0) (hd : d.size = S.size) (he : e.size = 32)
    (hE : sinE (S.blk k) (decide ((i : Int) ≠ (S.blk k).next)) ≠ 0) :
    Calls Tryz.prog 96 #[.pointer (some ⟨p, 0, none⟩), .int .i64 (k : Int), .int .i64 (i : Int), .string d, .string e] w (NandIs p q B G (sinS S k (decide ((i : Int) ≠ (S.blk k).next))) (.int .i64 (sinE (S.blk k) (decide ((i : Int) ≠ (S.blk k).next)))) w) := by
  obtain ⟨ho, -, hk', -, hi'⟩ := askE_in ha
  have hk : k < S.L.length := by omega
  have HASK := hide (ask_any p q B G S (k : Int) (i : Int) w h)
  rw [ha] at HASK
  have HAT := hide (at_yes p q B G S k hk w h)
  have HSIN := hide (fun o => sin_any p q B G S k hk o hS.sins.1 (by have := hS.sins.2; omega) w h)
  have c2 : w.cell? ⟨p, 2, none⟩ = some (.int .i64 (S.size : Int)) := h.cell 2
  have d1 : w.cell? ⟨q, k * 6 + 1, none⟩ = some (.int .i64 (S.blk k).next) := h.slot k hk 1 (by decide)
  have hdI : (d.size : Int) = (S.size : Int) := by rw [hd]
  have heI : (e.size : Int) = 32 := by rw [he]; rfl
  clear h ha hS
  obtain ⟨nx, hnx⟩ : ∃ nx, (S.blk k).next = nx := ⟨_, rfl⟩
  rw [hnx] at d1 hE ⊢
  by_cases hq : (i : Int) = nx
  · rw [← hq] at d1
    rw [decide_eq_false (show ¬ (i : Int) ≠ nx from fun h => h hq)] at hE ⊢
    have HS := hide (HSIN.out false)
    generalize sinE (S.blk k) false = E at *
    clear hq HSIN hnx
    go_enter Tryz.func96, Tryz.ntmps96
    go_wp2_with fail
    refine HASK.out.mono ?_
    rintro e0 w1 ⟨rfl, rfl⟩
    go_wp2_with fail
    refine HAT.out.mono ?_
    rintro e0 w1 ⟨rfl, rfl⟩
    go_wp2_with fail
    refine HS.out.mono ?_
    rintro e0 w2 ⟨rfl, hn, ht⟩
    have N2 := hide hn
    have T2 := hide ht
    clear hn ht
    go_wp2_with fail
    go_ret
    exact ⟨rfl, N2.out, T2.out⟩
  · rw [decide_eq_true (show (i : Int) ≠ nx from hq)] at hE ⊢
    have HS := hide (HSIN.out true)
    generalize sinE (S.blk k) true = E at *
    clear HSIN hnx
    have hqb : ((i : Int) != nx) = true := by simpa using hq
    go_enter Tryz.func96, Tryz.ntmps96
    go_wp2_with fail
    refine HASK.out.mono ?_
    rintro e0 w1 ⟨rfl, rfl⟩
    go_wp2_with fail
    refine HAT.out.mono ?_
    rintro e0 w1 ⟨rfl, rfl⟩
    go_wp2_with fail
    refine HS.out.mono ?_
    rintro e0 w2 ⟨rfl, hn, ht⟩
    have N2 := hide hn
    have T2 := hide ht
    clear hn ht
    go_wp2_with fail
    go_ret
    exact ⟨rfl, N2.out, T2.out⟩
/-- Program, whatever is asked -/
theorem program_any (p q B : Nat) (G : Nat → Nat) (S : ChipM) (hS : NandOk S) (b i : Int) (d e : ByteArray) (w : World) (h : NandAt w p q B G S) :
    Calls Tryz.prog 96 #[.pointer (some ⟨p, 0, none⟩), .int .i64 b, .int .i64 i, .string d, .string e] w (NandIs p q B G (progT S b i d e).1 (.int .i64 (progT S b i d e).2) w) := by
  by_cases ha : askE S b i = 0
  · by_cases hd : d.size ≠ S.size ∨ e.size ≠ 32
    · have e1 : progT S b i d e = (S, 2) := by unfold progT; rw [if_neg (fun h => h ha), if_pos hd]
      rw [e1]
      exact program_arg p q B G S b i d e w h ha hd
    · obtain ⟨ho, hb0, hk', hi0, hi'⟩ := askE_in ha
      obtain ⟨k, rfl⟩ : ∃ k : Nat, (k : Int) = b := ⟨b.toNat, by omega⟩
      obtain ⟨j, rfl⟩ : ∃ j : Nat, (j : Int) = i := ⟨i.toNat, by omega⟩
      have hd1 : d.size = S.size := by by_cases h1 : d.size = S.size; exact h1; exact absurd (.inl h1) hd
      have hd2 : e.size = 32 := by by_cases h1 : e.size = 32; exact h1; exact absurd (.inr h1) hd
      by_cases hE : sinE (S.blk k) (decide ((j : Int) ≠ (S.blk k).next)) = 0
      · have e1 : progT S (k : Int) (j : Int) d e = (progS S k j d e, progE S k) := by
          unfold progT
          rw [if_neg (fun h => h ha), if_neg hd, Int.toNat_natCast, Int.toNat_natCast, if_neg (fun h => h hE)]
        rw [e1]
        have h2 : (S.blk k).failed = false ∧ (S.blk k).mill = false ∧ (S.blk k).next = (j : Int) := by
          unfold sinE at hE
          by_cases h3 : (S.blk k).failed = true ∨ (S.blk k).mill = true
          · rw [if_pos h3] at hE; omega
          · rw [if_neg h3] at hE
            by_cases h4 : decide ((j : Int) ≠ (S.blk k).next) = true
            · rw [if_pos h4] at hE; omega
            · refine ⟨?_, ?_, ?_⟩
              · cases hq : (S.blk k).failed with
                | true => exact absurd (.inl hq) h3
                | false => rfl
              · cases hq : (S.blk k).mill with
                | true => exact absurd (.inr hq) h3
                | false => rfl
              · by_cases h5 : (j : Int) = (S.blk k).next
                · exact h5.symm
                · exact absurd (decide_eq_true h5) h4
        exact program_go p q B G S hS k j d e w h ha hd1 hd2 h2.1 h2.2.1 h2.2.2
      · have e1 : progT S (k : Int) (j : Int) d e = (sinS S k (decide ((j : Int) ≠ (S.blk k).next)), sinE (S.blk k) (decide ((j : Int) ≠ (S.blk k).next))) := by
          unfold progT
          rw [if_neg (fun h => h ha), if_neg hd, Int.toNat_natCast, if_pos hE]
        rw [e1]
        exact program_sin p q B G S hS k j d e w h ha hd1 hd2 hE
  · have e1 : progT S b i d e = (S, askE S b i) := by unfold progT; rw [if_pos ha]
    rw [e1]
    exact program_ask p q B G S b i d e w h ha
end Go.Proofs.YtjfmkfhjbdiojaaGreat

namespace Go.Proofs.YtjfmkfhjbdiojaaGreat
set_option linter.unusedSimpArgs false
set_option linter.unusedVariables false
open Go.RowKit Go.WideShapes Go.ChangeShapes Go.ChangeAt Go.Deep

def clrB (b : BlkM) : BlkM := { b with failed := false }
/-- the first k blocks are tried anew -/
def onL (L : List BlkM) : Nat → List BlkM
  | 0 => L
  | k + 1 => (onL L k).set k (clrB ((onL L k).getD k blk0))
theorem onL_length (L : List BlkM) : ∀ k, (onL L k).length = L.length
  | 0 => rfl
  | k + 1 => by rw [onL, List.length_set, onL_length L k]
theorem onL_at (L : List BlkM) : ∀ k i, i < L.length → (onL L k).getD i blk0 = if i < k then clrB (L.getD i blk0) else L.getD i blk0
  | 0, i, _ => by rw [if_neg (by omega)]; rfl
  | k + 1, i, hi => by
    rw [onL]
    by_cases h : i = k
    · subst h
      rw [getD_set_self _ _ _ _ (by rw [onL_length]; exact hi), onL_at L i i hi, if_neg (by omega), if_pos (by omega)]
    · rw [getD_set_other _ _ _ _ _ h, onL_at L k i hi]
      by_cases h2 : i < k
      · rw [if_pos h2, if_pos (by omega)]
      · rw [if_neg h2, if_neg (by omega)]
theorem onL_all (L : List BlkM) : onL L L.length = L.map clrB := by
  apply List.ext_getElem
  · rw [onL_length, List.length_map]
  · intro i h1 h2
    rw [onL_length] at h1
    have h := onL_at L L.length i h1
    rw [if_pos h1] at h
    rw [List.getElem_map]
    have e1 : (onL L L.length).getD i blk0 = (onL L L.length)[i]'(by rw [onL_length]; exact h1) := by simp [List.getD, onL_length, h1]
    have e2 : L.getD i blk0 = L[i] := by simp [List.getD, h1]
    rw [e1, e2] at h
    exact h
def onS (S : ChipM) : ChipM := { S with off := false, fuse := 0, L := S.L.map clrB }
end Go.Proofs.YtjfmkfhjbdiojaaGreat

namespace Go.Proofs.YtjfmkfhjbdiojaaGreat
set_option linter.unusedSimpArgs false
set_option linter.unusedVariables false
open Go.RowKit Go.WideShapes Go.ChangeShapes Go.ChangeAt Go.Deep

set_option maxRecDepth 100000 in
theorem shape_nil (w : World) : Calls Tryz.prog 44 #[.pointer none] w fun e w' => e = .returned (.agg #[.int .i64 0, .int .i64 0, .int .i64 0]) ∧ Below w.heap.size w w' := by
  go_enter Tryz.func44, Tryz.ntmps44
  go_wp2_with fail
  refine bodyPost_ret (v := .agg #[.int .i64 0, .int .i64 0, .int .i64 0]) ?_ rfl ⟨rfl, (Below.refl _ _).alloc (Nat.le_refl _) _⟩
  have z := heap_new w (.cells #[.int .i64 0, .int .i64 0, .int .i64 0] 64)
  have z0 := z
  have z1 := cell_of_block z0 0
  have z2 := cell_of_block z0 1
  have z3 := cell_of_block z0 2
  simp [results, Tryz.results44, go_sem, z1, z2, z3]
set_option maxRecDepth 100000 in
theorem shape_any (p q B : Nat) (G : Nat → Nat) (S : ChipM) (w : World) (h : NandAt w p q B G S) :
    Calls Tryz.prog 44 #[.pointer (some ⟨p, 0, none⟩)] w fun e w' => e = .returned (.agg #[.int .i64 (S.L.length : Int), .int .i64 (S.pgs : Int), .int .i64 (S.size : Int)]) ∧ Below w.heap.size w w' := by
  have c0 : w.cell? ⟨p, 0, none⟩ = some (.int .i64 (S.L.length : Int)) := h.cell 0
  have c1 : w.cell? ⟨p, 1, none⟩ = some (.int .i64 (S.pgs : Int)) := h.cell 1
  have c2 : w.cell? ⟨p, 2, none⟩ = some (.int .i64 (S.size : Int)) := h.cell 2
  have hpl := h.lt
  clear h
  go_enter Tryz.func44, Tryz.ntmps44
  go_wp2_with fail
  refine bodyPost_ret (v := .agg #[.int .i64 (S.L.length : Int), .int .i64 (S.pgs : Int), .int .i64 (S.size : Int)]) ?_ rfl ⟨rfl, (Below.refl _ _).alloc (Nat.le_refl _) _⟩
  have z0 := heap_new w (.cells #[.int .i64 (S.L.length : Int), .int .i64 (S.pgs : Int), .int .i64 (S.size : Int)] 64)
  have z1 := cell_of_block z0 0
  have z2 := cell_of_block z0 1
  have z3 := cell_of_block z0 2
  simp [results, Tryz.results44, go_sem, z1, z2, z3]
end Go.Proofs.YtjfmkfhjbdiojaaGreat

namespace Go.Proofs.YtjfmkfhjbdiojaaGreat
set_option linter.unusedSimpArgs false
set_option linter.unusedVariables false
open Go.RowKit Go.WideShapes Go.ChangeShapes Go.ChangeAt Go.Deep

theorem fieldsPg : fdesc (Tryz.prog.fieldsOf 107).toList = [("data", 9, 0), ("beside", 9, 1)] := by kernel_rfl
theorem eq_pg (a b a' b' : ByteArray) (w : World) : (Op.equalIn 10000 107 (.agg #[.string a, .string b]) (.agg #[.string a', .string b'])).run Tryz.prog w =
    .ok (a.toList == a'.toList && (b.toList == b'.toList && true)) w := by
  rw [run_equalIn_agg w 9999 107 _ _ (by kernel_rfl) (by kernel_rfl)]
  exact eqF_cons w _ _ _ fieldsPg (by decide) (by kernel_rfl) (by kernel_rfl) (run_equalIn_string w 9998 9 _ _ Tryz.underlying9) fun l h =>
    eqF_cons w _ _ _ h (by decide) (by kernel_rfl) (by kernel_rfl) (run_equalIn_string w 9998 9 _ _ Tryz.underlying9) fun l h => eqF_nil w _ _ _ h
theorem neq_pg (a b : ByteArray) (w : World) : (binOp .neq 107 (.agg #[.string a, .string b]) (.agg #[.string a, .string b])).run Tryz.prog w = .ok (.bool false) w := by
  rw [run_neq_struct, eq_pg]
  simp
theorem guard_pg (x y : Operand) (a b : Array Value) (w : World) : (eqGuard .neq 107 x y (.agg a) (.agg b)).run Tryz.prog w = .ok () w := run_eqGuard_agg w .neq 107 x y a b (by kernel_rfl)
theorem gone_all (i : Int) (w : World) : Calls Tryz.prog 138 #[.int .i64 i] w fun e w' => e = .returned (.bool true) ∧ w = w' := by
  go_enter Tryz.func138, Tryz.ntmps138
  go_wp2_with fail
  go_ret
  exact ⟨rfl, rfl⟩
/-- the first j pages are erased -/
def wipeP (x : Pg) (L : List Pg) : Nat → List Pg
  | 0 => L
  | j + 1 => (wipeP x L j).set j x
theorem wipeP_length (x : Pg) (L : List Pg) : ∀ j, (wipeP x L j).length = L.length
  | 0 => rfl
  | j + 1 => by rw [wipeP, List.length_set, wipeP_length x L j]
set_option maxRecDepth 100000 in
set_option maxHeartbeats 400000 in
theorem wipe_all (p q B : Nat) (G : Nat → Nat) (S : ChipM) (k : Nat) (hk : k < S.L.length) (w : World) (h : NandAt w p q B G S) :
    Calls Tryz.prog 136 #[.pointer (some ⟨p, 0, none⟩), .pointer (some ⟨q, k * 6, none⟩), .func (.func 138) #[] #[]] w (NandIs p q B G (S.put k { S.blk k with pages := wipeP S.blank (S.blk k).pages S.pgs, next := 0 }) (.tuple #[]) w) := by
  have hg64 := h.few.2
  have d1 : w.cell? ⟨q, k * 6 + 1, none⟩ = some (.int .i64 (S.blk k).next) := h.slot k hk 1 (by decide)
  have f1 := h.row.free (k * 6 + 1)
  have hset := h.setBlk k hk 1 (by decide) (.int .i64 0) { S.blk k with next := 0 } rfl rfl
  have N1 := hide hset
  have T1 := hide (h.turnBlk (k * 6 + 1) (.int .i64 0))
  have d0 : (w.setCell ⟨q, k * 6 + 1, none⟩ (.int .i64 0)).cell? ⟨q, k * 6, none⟩ = some (.slice (some ⟨G k, 0, none⟩) S.pgs S.pgs) := by
    refine (show _ = _ from hset.slot k (by rw [put_length]; exact hk) 0 (by decide)).trans ?_
    rw [blk_put_self S k _ hk, ← h.len k hk]; rfl
  have d0' : w.cell? ⟨q, k * 6, none⟩ = some (.slice (some ⟨G k, 0, none⟩) S.pgs S.pgs) := by
    have := h.slot k hk 0 (by decide)
    rw [Nat.add_zero] at this
    rw [this, ← h.len k hk]; rfl
  have HL := hide (h.len k hk)
  clear h hset
  go_enter Tryz.func136, Tryz.ntmps136
  go_wp2_with fail
  clear d0 d0' d1 f1
  generalize w.setCell ⟨q, k * 6 + 1, none⟩ (.int .i64 0) = w1 at *
  go_loopw [15] (fun i W => ∃ j : Nat, j ≤ S.pgs ∧ i = .int .i64 j ∧ NandAt W p q B G (S.put k { S.blk k with pages := wipeP S.blank (S.blk k).pages j, next := 0 }) ∧ Turn B w W) (fun i _ => S.pgs - (intOf i).toNat)
  case atStart => exact ⟨0, by omega, rfl, N1.out, T1.out⟩
  case round =>
    obtain ⟨j, hj, rfl, hn, ht⟩ := hrel
    have NJ := hide hn
    have TJ := hide ht
    clear hn ht
    by_cases hlt : j < S.pgs
    · obtain ⟨SJ, hSJ⟩ : ∃ SJ, SJ = S.put k { S.blk k with pages := wipeP S.blank (S.blk k).pages j, next := 0 } := ⟨_, rfl⟩
      have hbj : SJ.blk k = { S.blk k with pages := wipeP S.blank (S.blk k).pages j, next := 0 } := by rw [hSJ, blk_put_self S k _ hk]
      have hkj : k < SJ.L.length := by rw [hSJ, put_length]; exact hk
      have hjj : j < SJ.pgs := by rw [hSJ]; exact hlt
      have hbl : SJ.blank = S.blank := by rw [hSJ]; rfl
      have hnext : SJ.put k { SJ.blk k with pages := (SJ.blk k).pages.set j S.blank } = S.put k { S.blk k with pages := wipeP S.blank (S.blk k).pages (j + 1), next := 0 } := by
        rw [hbj, hSJ, put_put]; rfl
      rw [← hSJ] at NJ
      have d0 : wr.cell? ⟨q, k * 6, none⟩ = some (.slice (some ⟨G k, 0, none⟩) S.pgs S.pgs) := by
        refine (show _ = _ from NJ.out.slot k hkj 0 (by decide)).trans ?_
        rw [hbj]
        show some (Value.slice _ (wipeP S.blank (S.blk k).pages j).length (wipeP S.blank (S.blk k).pages j).length) = _
        rw [wipeP_length, HL.out]
      have c3 : wr.cell? ⟨p, 3, none⟩ = some (.string S.blank.1) := by rw [← hbl]; exact NJ.out.cell 3
      have c4 : wr.cell? ⟨p, 4, none⟩ = some (.string S.blank.2) := by rw [← hbl]; exact NJ.out.cell 4
      have e0 := NJ.out.leaf k hkj j hjj 0 (by decide)
      have e1 := NJ.out.leaf k hkj j hjj 1 (by decide)
      simp only [pgC, List.getElem?_cons_zero, List.getElem?_cons_succ, Nat.add_zero] at e0 e1
      have g0 := (NJ.out.page k hkj).free (j * 2)
      have g1 := (NJ.out.page k hkj).free (j * 2 + 1)
      have N2 := hide ((NJ.out.setPage2 k hkj j hjj S.blank).drew)
      have T2 := hide ((TJ.out.trans (NJ.out.turnPage2 k hkj j hjj S.blank.1 S.blank.2)).drew)
      rw [hnext] at N2
      clear hnext hbj hSJ hbl
      go_wp2_with fail
      refine (gone_all _ _).mono ?_
      rintro e w2 ⟨rfl, rfl⟩
      go_upto_region 5 with (fail)
      go_still_tail 10, (by kernel_rfl)
      change wpList _ _ _ _ _ wr.drew
      go_wp2_with fail
      clear d0 c3 c4 e0 e1 g0 g1
      generalize ((wr.setCell ⟨G k, j * 2, none⟩ (.string S.blank.1)).setCell ⟨G k, j * 2 + 1, none⟩ (.string S.blank.2)).drew = w3 at *
      obtain ⟨SK, hSK⟩ : ∃ SK, SK = S.put k { S.blk k with pages := wipeP S.blank (S.blk k).pages (j + 1), next := 0 } := ⟨_, rfl⟩
      have hbk : SK.blk k = { S.blk k with pages := wipeP S.blank (S.blk k).pages (j + 1), next := 0 } := by rw [hSK, blk_put_self S k _ hk]
      have hkk : k < SK.L.length := by rw [hSK, put_length]; exact hk
      have hjk : j < SK.pgs := by rw [hSK]; exact hlt
      have hbl : SK.blank = S.blank := by rw [hSK]; rfl
      have N3 := hide (show NandAt w3 p q B G SK by rw [hSK]; exact N2.out)
      have d0 : w3.cell? ⟨q, k * 6, none⟩ = some (.slice (some ⟨G k, 0, none⟩) S.pgs S.pgs) := by
        refine (show _ = _ from N3.out.slot k hkk 0 (by decide)).trans ?_
        rw [hbk]
        show some (Value.slice _ (wipeP S.blank (S.blk k).pages (j + 1)).length (wipeP S.blank (S.blk k).pages (j + 1)).length) = _
        rw [wipeP_length, HL.out]
      have c3 : w3.cell? ⟨p, 3, none⟩ = some (.string S.blank.1) := by rw [← hbl]; exact N3.out.cell 3
      have c4 : w3.cell? ⟨p, 4, none⟩ = some (.string S.blank.2) := by rw [← hbl]; exact N3.out.cell 4
      have hpj : (SK.blk k).pages.getD j pg0 = S.blank := by
        rw [hbk]
        exact getD_set_self _ _ _ _ (by rw [wipeP_length, HL.out]; exact hlt)
      have e0 := N3.out.leaf k hkk j hjk 0 (by decide)
      have e1 := N3.out.leaf k hkk j hjk 1 (by decide)
      rw [hpj] at e0 e1
      simp only [pgC, List.getElem?_cons_zero, List.getElem?_cons_succ, Nat.add_zero] at e0 e1
      have hne := neq_pg S.blank.1 S.blank.2
      have hgd := guard_pg
      clear hpj hbl hbk hSK N3
      go_quiet (fail)
      clear d0 c3 c4 e0 e1 hne hgd
      go_wp2_with fail
      go_roundw
      case rel => exact ⟨j + 1, by omega, by go_num, N2.out.drewN _, T2.out.drewN _⟩
      case measure => simp [intOf]; omega
    · obtain rfl : j = S.pgs := by omega
      go_wp2_with fail
      go_end0
      exact ⟨rfl, NJ.out, TJ.out⟩
end Go.Proofs.YtjfmkfhjbdiojaaGreat

namespace Go.Proofs.YtjfmkfhjbdiojaaGreat
set_option linter.unusedSimpArgs false
set_option linter.unusedVariables false
open Go.RowKit Go.WideShapes Go.ChangeShapes Go.ChangeAt Go.Deep

theorem erase_nil (b : Int) (w : World) : Calls Tryz.prog 131 #[.pointer none, .int .i64 b] w fun e w' => e = .returned (.int .i64 1) ∧ w = w' := by
  go_enter Tryz.func131, Tryz.ntmps131
  go_wp2_with fail
  refine (ask_nil b 0 w).mono ?_
  rintro e0 w1 ⟨rfl, rfl⟩
  go_wp2_with fail
  go_ret
  exact ⟨rfl, rfl⟩
theorem erase_ask (p q B : Nat) (G : Nat → Nat) (S : ChipM) (b : Int) (w : World) (h : NandAt w p q B G S) (ha : askE S b 0 ≠ 0) :
    Calls Tryz.prog 131 #[.pointer (some ⟨p, 0, none⟩), .int .i64 b] w (NandIs p q B G S (.int .i64 (askE S b 0)) w) := by
  have HASK := hide (ask_any p q B G S b 0 w h)
  have HH := hide h
  clear h
  generalize askE S b 0 = ae at *
  go_enter Tryz.func131, Tryz.ntmps131
  go_wp2_with fail
  refine HASK.out.mono ?_
  rintro e0 w1 ⟨rfl, rfl⟩
  go_wp2_with fail
  go_ret
  exact ⟨rfl, HH.out, Turn.refl _ _⟩
set_option maxRecDepth 100000 in
set_option maxHeartbeats 400000 in
theorem erase_sin (p q B : Nat) (G : Nat → Nat) (S : ChipM) (hS : NandOk S) (k : Nat) (w : World) (h : NandAt w p q B G S) (ha : askE S (k : Int) 0 = 0) (hE : sinE (S.blk k) false ≠ 0) :
    Calls Tryz.prog 131 #[.pointer (some ⟨p, 0, none⟩), .int .i64 (k : Int)] w (NandIs p q B G (sinS S k false) (.int .i64 (sinE (S.blk k) false)) w) := by
  obtain ⟨ho, -, hk', -, hi'⟩ := askE_in ha
  have hk : k < S.L.length := by omega
  have HASK := hide (ask_any p q B G S (k : Int) 0 w h)
  rw [ha] at HASK
  have HAT := hide (at_yes p q B G S k hk w h)
  have HS := hide (sin_any p q B G S k hk false hS.sins.1 (by have := hS.sins.2; omega) w h)
  clear h ha hS
  generalize sinE (S.blk k) false = E at *
  go_enter Tryz.func131, Tryz.ntmps131
  go_wp2_with fail
  refine HASK.out.mono ?_
  rintro e0 w1 ⟨rfl, rfl⟩
  go_wp2_with fail
  refine HAT.out.mono ?_
  rintro e0 w1 ⟨rfl, rfl⟩
  go_wp2_with fail
  refine HS.out.mono ?_
  rintro e0 w2 ⟨rfl, hn, ht⟩
  have N2 := hide hn
  have T2 := hide ht
  clear hn ht
  go_wp2_with fail
  go_ret
  exact ⟨rfl, N2.out, T2.out⟩
/-- what an Erase turns that isn't cut -/
def erasedS (S : ChipM) (k : Nat) : ChipM :=
  let S1 := cutS (erasS S)
  if (S.blk k).weak = true then S1.put k { S.blk k with failed := true }
  else S1.put k { S.blk k with pages := wipeP S.blank (S.blk k).pages S.pgs, next := 0, erased := (S.blk k).erased + 1 }
def erasedE (S : ChipM) (k : Nat) : Int := if (S.blk k).weak = true then 10 else 0
theorem cut_blank (S : ChipM) : (cutS S).blank = S.blank := by unfold cutS; split <;> rfl
set_option maxRecDepth 100000 in
set_option maxHeartbeats 1000000 in
theorem erase_go (p q B : Nat) (G : Nat → Nat) (S : ChipM) (hS : NandOk S) (k : Nat) (w : World) (h : NandAt w p q B G S) (ha : askE S (k : Int) 0 = 0) (hE : sinE (S.blk k) false = 0) (hfz : ¬ S.fuse = 1) (her : 0 ≤ (S.blk k).erased ∧ (S.blk k).erased ≤ 1000000) :
    Calls Tryz.prog 131 #[.pointer (some ⟨p, 0, none⟩), .int .i64 (k : Int)] w (NandIs p q B G (erasedS S k) (.int .i64 (erasedE S k)) w) := by
  obtain ⟨ho, -, hk', -, hi'⟩ := askE_in ha
  have hk : k < S.L.length := by omega
  have HASK := hide (ask_any p q B G S (k : Int) 0 w h)
  rw [ha] at HASK
  have HAT := hide (at_yes p q B G S k hk w h)
  have HS := hide (sin_any p q B G S k hk false hS.sins.1 (by have := hS.sins.2; omega) w h)
  rw [show sinS S k false = S by unfold sinS; rw [if_pos hE], hE] at HS
  have HC := hide (fun W hW => cut_eras p q B G S hS.eras.1 (by have := hS.eras.2; omega) hS.fuse.1 hS.fuse.2 W hW)
  rw [decide_eq_false hfz] at HC
  obtain ⟨S1, hS1⟩ : ∃ S1, S1 = cutS (erasS S) := ⟨_, rfl⟩
  rw [← hS1] at HC
  have hb1 : S1.blk k = S.blk k := by rw [hS1, cut_blk]; rfl
  have hl1 : k < S1.L.length := by rw [hS1, cut_len]; exact hk
  have hg1 : S1.pgs = S.pgs := by rw [hS1, cut_pgs]; rfl
  have hbl1 : S1.blank = S.blank := by rw [hS1, cut_blank]; rfl
  have HR := hide (show erasedS S k = if (S.blk k).weak = true then S1.put k { S.blk k with failed := true }
    else S1.put k { S.blk k with pages := wipeP S.blank (S.blk k).pages S.pgs, next := 0, erased := (S.blk k).erased + 1 } by rw [hS1]; rfl)
  have HRE := hide (show erasedE S k = if (S.blk k).weak = true then 10 else 0 from rfl)
  have HB1 := hide hb1
  have HG1 := hide hg1
  have HBL := hide hbl1
  clear h ha hS hE hS1 hb1 hg1 hbl1 hfz
  go_enter Tryz.func131, Tryz.ntmps131
  go_wp2_with fail
  refine HASK.out.mono ?_
  rintro e0 w1 ⟨rfl, rfl⟩
  go_wp2_with fail
  refine HAT.out.mono ?_
  rintro e0 w1 ⟨rfl, rfl⟩
  go_wp2_with fail
  refine HS.out.mono ?_
  rintro e0 w2 ⟨rfl, hn, ht⟩
  have N2 := hide hn
  have T2 := hide ht
  clear hn ht HASK HAT HS
  go_wp2_with fail
  refine (HC.out _ N2.out).mono ?_
  rintro e0 w3 ⟨rfl, hn, ht⟩
  have N3 := hide hn
  have T3 := hide (T2.out.trans ht)
  clear hn ht N2 T2 HC
  have d4 : w3.cell? ⟨q, k * 6 + 4, none⟩ = some (.bool (S.blk k).weak) := by rw [← HB1.out]; exact N3.out.slot k hl1 4 (by decide)
  have d5 : w3.cell? ⟨q, k * 6 + 5, none⟩ = some (.bool (S1.blk k).failed) := N3.out.slot k hl1 5 (by decide)
  have f5 := N3.out.row.free (k * 6 + 5)
  cases hwk : (S.blk k).weak with
  | true =>
    rw [hwk] at d4
    have hset := N3.out.setBlk k hl1 5 (by decide) (.bool true) { S1.blk k with failed := true } rfl rfl
    rw [HB1.out] at hset
    have N4 := hide hset
    have T4 := hide (T3.out.trans (N3.out.turnBlk (k * 6 + 5) (.bool true)))
    clear hset
    go_wp2_with fail
    go_ret
    refine ⟨ret_int (by rw [HRE.out, hwk, if_pos rfl]), ?_, T4.out⟩
    rw [HR.out, if_pos hwk]
    exact N4.out
  | false =>
    rw [hwk] at d4
    go_wp2_with fail
    refine (wipe_all p q B G S1 k hl1 w3 N3.out).mono ?_
    rintro e0 w4 ⟨rfl, hn, ht⟩
    have T4 := hide (T3.out.trans ht)
    rw [HB1.out, HBL.out, HG1.out] at hn
    have N4 := hide hn
    clear hn ht d4 d5 f5 N3 T3
    have hk4 : k < (S1.put k { S.blk k with pages := wipeP S.blank (S.blk k).pages S.pgs, next := 0 }).L.length := by rw [put_length]; exact hl1
    have hb4 := blk_put_self S1 k { S.blk k with pages := wipeP S.blank (S.blk k).pages S.pgs, next := 0 } hl1
    have d2 : w4.cell? ⟨q, k * 6 + 2, none⟩ = some (.int .i64 (S.blk k).erased) := by
      refine (show _ = _ from N4.out.slot k hk4 2 (by decide)).trans ?_
      rw [hb4]; rfl
    have f2 := N4.out.row.free (k * 6 + 2)
    have hset := N4.out.setBlk k hk4 2 (by decide) (.int .i64 ((S.blk k).erased + 1)) { S.blk k with pages := wipeP S.blank (S.blk k).pages S.pgs, next := 0, erased := (S.blk k).erased + 1 } (by rw [hb4]) (by rw [hb4]; rfl)
    rw [put_put] at hset
    have N5 := hide hset
    have T5 := hide (T4.out.trans (N4.out.turnBlk (k * 6 + 2) (.int .i64 ((S.blk k).erased + 1))))
    have hwr : IntKind.i64.wrap ((S.blk k).erased + 1) = (S.blk k).erased + 1 := by rw [IntKind.wrap_i64]; omega
    clear hset hk4 hb4
    go_wp2_with fail
    go_ret
    refine ⟨ret_int (by rw [HRE.out, hwk, if_neg (by decide)]), ?_, T5.out⟩
    rw [HR.out, if_neg (by rw [hwk]; decide)]
    exact N5.out
end Go.Proofs.YtjfmkfhjbdiojaaGreat

namespace Go.Proofs.YtjfmkfhjbdiojaaGreat
set_option linter.unusedSimpArgs false
set_option linter.unusedVariables false
open Go.RowKit Go.WideShapes Go.ChangeShapes Go.ChangeAt Go.Deep

def fillU (n : Nat) : ByteArray := ⟨(Lib.repeatL [85] n).toArray⟩
theorem fillU_size (n : Nat) : (fillU n).size = n := by
  show (Lib.repeatL [85] n).toArray.size = n
  rw [List.size_toArray, Lib.repeatL_length]
  simp
def fullB (s : ByteArray) (n : Nat) : ByteArray := (s ++ fillU n).extract 0 n
theorem fullB_size (s : ByteArray) (n : Nat) : (fullB s n).size = n := by
  unfold fullB
  rw [ByteArray.size_extract, ByteArray.size_append, fillU_size]
  omega
end Go.Proofs.YtjfmkfhjbdiojaaGreat

namespace Go.Proofs.YtjfmkfhjbdiojaaGreat
set_option linter.unusedSimpArgs false
set_option linter.unusedVariables false
open Go.RowKit Go.WideShapes Go.ChangeShapes Go.ChangeAt Go.Deep

set_option maxRecDepth 100000 in
theorem new_bad (b p s : Int) (h : rightS b p s = false) (v : Value) (w : World) :
    Calls Tryz.prog 19 #[.agg #[.int .i64 b, .int .i64 p, .int .i64 s], v] w fun e w' => e = .returned (.tuple #[.pointer none, .int .i64 2]) ∧ Below w.heap.size w w' := by
  have HR := hide (fun W => right_any b p s W)
  rw [h] at HR
  clear h
  go_enter Tryz.func19, Tryz.ntmps19
  go_wp2_with fail
  refine (HR.out _).mono ?_
  rintro e w1 ⟨rfl, hb⟩
  have HB := hide (((Below.refl w.heap.size w).alloc (Nat.le_refl _) (.cells #[.int .i64 b, .int .i64 p, .int .i64 s] 64)).trans (hb.mono (by simp)))
  clear hb
  go_wp2_with fail
  go_ret2
  exact ⟨rfl, HB.out⟩
end Go.Proofs.YtjfmkfhjbdiojaaGreat
