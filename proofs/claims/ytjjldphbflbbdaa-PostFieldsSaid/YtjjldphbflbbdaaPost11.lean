/-
  Layer 22: the document's On, Check and Contra by contract.
-/
import Derived.Test.YtjjldphbflbbdaaPost10
--import Derived.Test.Zdbg
namespace Go.Proofs.Ytjjldphbflbbdaa
set_option linter.unusedSimpArgs false
set_option linter.unusedVariables false
open Go.RowKit Go.WideShapes Go.ChangeShapes Go.ChangeAt Go.Deep

theorem rtotal_owns (xs : List Int) (hx : ∀ x ∈ xs, inR x) (hn : xs.length ≤ 1000) (a : Option Addr) (c B : Nat) (w : World) (h : w.ownsRow B 2 1 (.slice a xs.length c) xs.length (xs.map (Value.int .i64))) :
    Calls Try.prog 34 #[.slice a xs.length c] w fun e w' => e = .returned (.tuple #[.int .i64 (sumV xs.sum), .int .i64 (sumE xs.sum)]) ∧ Below w.heap.size w w' := by
  rcases h.2 with ⟨h1, h2⟩ | ⟨g, cap, cur, h1, h2, h3, h4, h5, h6, h7⟩
  · obtain rfl : xs = [] := List.eq_nil_of_length_eq_zero h2
    rw [sum_nil0.1, sum_nil0.2]
    exact rtotal_zero a c w
  · simp only [Value.slice.injEq] at h1
    rw [h1.1]
    refine rtotal_any xs hx (by omega) g 0 c w (heap_lt h3) fun k hk => ?_
    rw [cell_of_block h3, Nat.zero_add, ← Array.getElem?_toList]
    have e := congrArg (fun l : List Value => l[k]?) h7
    simp only [Nat.mul_one] at e
    rw [List.getElem?_take_of_lt hk] at e
    rw [e, List.getElem?_map, List.getElem?_eq_getElem hk]
    simp [List.getD, hk]
theorem onL_next (z : Int) (L : List LnM) (k : Nat) (h : k < L.length) : onL z (L.take (k + 1)) = if (L.getD k ln0).c = z then onL z (L.take k) ++ [(L.getD k ln0).n] else onL z (L.take k) := by
  have h1 := wantN_next (fun x => decide (x.c = z)) L k h
  unfold onL
  rw [h1]
  by_cases e : (L.getD k ln0).c = z
  · rw [if_pos e, if_pos (decide_eq_true e)]
  · rw [if_neg e, if_neg (by simpa using e)]
theorem onL_in (z : Int) (L : List LnM) (h : ∀ x ∈ L, inR x.n) : ∀ y ∈ onL z L, inR y := wantN_in _ L h
theorem onL_len (z : Int) (L : List LnM) : (onL z L).length ≤ L.length := wantN_len _ L
set_option maxRecDepth 100000 in
set_option maxHeartbeats 400000 in
theorem ron_post (z : Int) (L : List LnM) (hL : L.length ≤ 1000) (hr : ∀ x ∈ L, inR x.n) (a : Option Addr) (cap : Nat) (w : World) (hin : LnIn w a L) :
    Calls Try.prog 16 #[.slice a L.length cap, .int .i64 z] w fun e w' => e = .returned (.tuple #[.int .i64 (sumV (onL z L).sum), .int .i64 (sumE (onL z L).sum)]) ∧ Below w.heap.size w w' := by
  obtain ⟨i0, hi, hz0, hz1, hz2⟩ := info_parts (show (Try.prog.info? 2).map (fun i => (i.zero, i.size, i.bytes)) = some (some (.int .i64 0), 1, 8) by kernel_rfl)
  have HI := hide hi
  have HZ0 := hide hz0
  have HZ1 := hide hz1
  have HZ2 := hide hz2
  have HIN := hide hin
  have HR := hide (onL_in z L hr)
  have HLN := hide (onL_len z L)
  clear hi hz0 hz1 hz2 hin hr
  go_enter Try.func16, Try.ntmps16
  go_wp2_with fail
  go_loopw [6, 7] (fun s i W => ∃ (k : Nat) (a6 : Option Addr) (c6 : Nat), k ≤ L.length ∧ i = .int .i64 k ∧ s = .slice a6 (onL z (L.take k)).length c6 ∧ W.ownsRow w.heap.size 2 1 (.slice a6 (onL z (L.take k)).length c6) (onL z (L.take k)).length ((onL z (L.take k)).map (Value.int .i64)) ∧ Below w.heap.size w W) (fun s i _ => L.length - (intOf i).toNat)
  case atStart => exact ⟨0, none, 0, by omega, rfl, rfl, World.ownsRow_nil _ _ _ _, Below.refl _ _⟩
  case round =>
    obtain ⟨k, a6, c6, hk, rfl, rfl, ho, hb⟩ := hrel
    have HO := hide ho
    have HB := hide hb
    clear ho hb
    by_cases hlt : k < L.length
    · obtain ⟨b, off, rfl, hbl, c0, c1⟩ := (HIN.out.below HB.out) k hlt
      have HN := hide (onL_next z L k hlt)
      have hll : (onL z (L.take k)).length ≤ 1000 := by
        have h1 := onL_len z (L.take k)
        rw [List.length_take] at h1
        omega
      generalize onL z (L.take k) = M at *
      generalize L.getD k ln0 = x at *
      obtain ⟨xc, xn⟩ := x
      dsimp only at *
      by_cases hx : xc = z
      · rw [if_pos hx] at HN
        subst hx
        have hA := (Below.refl wr.heap.size wr).alloc (Nat.le_refl _) (.cells #[.int .i64 xn] 2)
        have HA := hide (owns_below HO.out hA)
        have HBA := hide (HB.out.alloc HB.out.size (.cells #[.int .i64 xn] 2))
        have hw5 : w.heap.size ≤ (wr.alloc (.cells #[.int .i64 xn] 2)).heap.size := HBA.out.size
        have HW5 := hide hw5
        have HNEW := hide (new_one wr (.int .i64 xn) 2)
        have HGE := hide (fun j (h : (Value.slice a6 M.length c6).ownBlock = some j) => (HA.out.lt j h).1)
        clear hw5 HO HB hA
        go_wp2_with (at_builtin; refine wpList_append_own _ rfl _ _ 88 rfl w.heap.size 2 i0 (.int .i64 0) 1 8 Try.underlying88 HI.out HZ0.out HZ1.out HZ2.out rfl (by decide) (.slice a6 M.length c6) M.length (M.map (Value.int .i64)) rfl HA.out ⟨wr.heap.size, 0, none⟩ 1 1 [.int .i64 xn] rfl rfl HNEW.out (one_int _) (by unfold maxLen; omega) (by omega) HW5.out ?_; intro v' w' ho hgr hnil; obtain ⟨a3, c3', rfl⟩ := owns_slice_n ho; have HO6 := hide ho; have HB6 := hide (HBA.out.grown hgr HBA.out.size HGE.out); clear ho hgr hnil)
        go_roundw
        case rel => exact ⟨k + 1, a3, c3', by omega, by go_num, by rw [HN.out]; simp, by rw [HN.out]; simpa using HO6.out, HB6.out⟩
        case measure => simp [intOf]; omega
      · rw [if_neg hx] at HN
        go_wp2_with fail
        go_roundw
        case rel => exact ⟨k + 1, a6, c6, by omega, by go_num, by rw [HN.out], by rw [HN.out]; exact HO.out, HB.out⟩
        case measure => simp [intOf]; omega
    · obtain rfl : k = L.length := by omega
      rw [List.take_length] at HO
      simp only [List.take_length]
      have HT := hide (rtotal_owns (onL z L) HR.out (by have := HLN.out; omega) a6 c6 _ wr HO.out)
      go_wp2_with fail
      refine HT.out.mono ?_
      rintro e w2 ⟨rfl, hb⟩
      have HB2 := hide (HB.out.trans (hb.mono HB.out.size))
      clear hb HB HO HT
      go_wp2_with fail
      go_ret2
      exact ⟨rfl, HB2.out⟩
set_option maxRecDepth 100000 in
theorem check_nil (v : Value) (w : World) : Calls Try.prog 12 #[v, .pointer none] w fun e w' => e = .returned (.int .i64 1) ∧ w = w' := by
  go_enter Try.func12, Try.ntmps12
  go_wp2_with fail
  go_ret
  exact ⟨rfl, rfl⟩
def RConIs (L : List LnM) (w : World) (e : Ending) (w' : World) : Prop := ((leastIn L = false ∧ ∃ a c, e = .returned (.tuple #[.slice a L.length c, .int .i64 0]) ∧ L.length ≤ c ∧ LnIn w' a (negL L)) ∨ (leastIn L = true ∧ e = .returned (.tuple #[.slice none 0 0, .int .i64 6]))) ∧ Below w.heap.size w w'
set_option maxRecDepth 100000 in
set_option maxHeartbeats 400000 in
theorem rcontra_any (L : List LnM) (hL : L.length ≤ 1000) (hok : ∀ x ∈ L, inR x.n) (a : Option Addr) (cap : Nat) (w : World) (hin : LnIn w a L) :
    Calls Try.prog 11 #[.slice a L.length cap] w (ConIs L w) := by
  obtain ⟨i0, hi, hz0, hz1, hz2⟩ := info_parts (show (Try.prog.info? 82).map (fun i => (i.zero, i.size, i.bytes)) = some (some (.agg #[.int .i64 0, .int .i64 0]), 2, 16) by kernel_rfl)
  have HI := hide hi
  have HZ0 := hide hz0
  have HZ1 := hide hz1
  have HZ2 := hide hz2
  have HIN := hide hin
  have HOK := hide hok
  clear hi hz0 hz1 hz2 hin hok
  go_enter Try.func11, Try.ntmps11
  go_wp2_with fail
  go_loopw [4, 5] (fun s i W => ∃ (k : Nat) (a4 : Option Addr) (c4 : Nat), k ≤ L.length ∧ i = .int .i64 k ∧ s = .slice a4 k c4 ∧ (∀ j, j < k → (L.getD j ln0).n ≠ -9223372036854775808) ∧ W.ownsRow w.heap.size 82 2 (.slice a4 k c4) k ((negL (L.take k)).flatMap lnC) ∧ Below w.heap.size w W) (fun s i _ => L.length - (intOf i).toNat)
  case atStart => exact ⟨0, none, 0, by omega, rfl, rfl, fun j hj => absurd hj (Nat.not_lt_zero j), World.ownsRow_nil _ _ _ _, Below.refl _ _⟩
  case round =>
    obtain ⟨k, a4, c4, hk, rfl, rfl, hno, ho, hb⟩ := hrel
    have OA := hide ho
    have BK := hide hb
    have HNO := hide hno
    clear ho hb hno
    by_cases hlt : k < L.length
    · obtain ⟨b, off, ha, hbl, c0, c1⟩ := HIN.out k (by omega)
      have HBL := hide hbl
      subst ha
      have HTN := hide (negL_next L k hlt)
      have HXO := hide (HOK.out _ (ln_mem L k hlt))
      have HLI := hide (fun (h : (L.getD k ln0).n = -9223372036854775808) => show leastIn L = true from List.any_eq_true.2 ⟨_, ln_mem L k hlt, by simpa using h⟩)
      have HNX := hide (fun (h : (L.getD k ln0).n ≠ -9223372036854775808) => show ∀ j, j < k + 1 → (L.getD j ln0).n ≠ -9223372036854775808 from fun j hj => by
        by_cases e : j = k
        · subst e; exact h
        · exact HNO.out j (by omega))
      generalize L.getD k ln0 = x at *
      obtain ⟨xc, xn⟩ := x
      dsimp only at *
      have C0 := hide c0
      have C1 := hide c1
      clear c0 c1 hbl
      have d1 := cell_keep' BK.out HBL.out (o := off + k * 2 + 1)
      rw [C1.out] at d1
      by_cases hx : xn = -9223372036854775808
      · have HE := hide (HLI.out hx)
        subst hx
        go_wp2_with fail
        go_ret2
        exact ⟨.inr ⟨HE.out, rfl⟩, BK.out⟩
      · have HN2 := hide (HNX.out hx)
        have hng : IntKind.i64.wrap (-xn) = -xn := wrap_in (by have h1 := HXO.out; unfold inR at h1 ⊢; omega)
        clear HLI HNX
        go_upto_region 7 with (fail)
        have OA0 := hide (show wr.drew.ownsRow w.heap.size 82 2 (.slice a4 k c4) k ((negL (L.take k)).flatMap lnC) from OA.out)
        have BK0 := hide BK.out.drew
        clear OA BK d1
        refine wp_region_held_drew (S := (fun W => Below w.heap.size w W)) (by kernel_rfl) (BK0.out) (fun hHeld => ?_)
        generalize wr.drew = v0 at *
        have al := (Below.refl v0.heap.size v0).alloc (Nat.le_refl _) (.cells #[.int .i64 xc, .int .i64 (-xn)] 82)
        have XB := hide (heap_new v0 (.cells #[.int .i64 xc, .int .i64 (-xn)] 82))
        have OA2 := hide (owns_below (show v0.ownsRow w.heap.size 82 2 (.slice a4 k c4) k ((negL (L.take k)).flatMap lnC) from OA0.out) al)
        have B2 := hide (BK0.out.alloc BK0.out.size (.cells #[.int .i64 xc, .int .i64 (-xn)] 82))
        have hws2 : w.heap.size ≤ (v0.alloc (.cells #[.int .i64 xc, .int .i64 (-xn)] 82)).heap.size := B2.out.size
        clear al
        refine wpAnyH_take (i := 0) (oi := { dst := some 18, op := Op.move (Operand.tmp 4), type := 31, pos := "ref.go:70", after := #[], guard := none }) (v := ?_) rfl (by kernel_rfl) (by kernel_rfl) (by kernel_rfl) (fun _ _ _ h => h) (Or.inl ⟨by kernel_rfl, ?_⟩) hHeld ?_
        rotate_left
        · (intro w hSw; (try dsimp only at hSw); have e0 := cell_keep C0.out HBL.out hSw; have e1 := cell_keep C1.out HBL.out hSw; go_simp); try with_reducible rfl
        try simp only [Act.put, List.setIfInBounds_toArray, List.set_cons_zero, List.set_cons_succ]
        refine wpAnyH_take (i := 1) (oi := { dst := some 19, op := Op.move (Operand.tmp 0), type := 31, pos := "ref.go:70", after := #[], guard := none }) (v := ?_) rfl (by kernel_rfl) (by kernel_rfl) (by kernel_rfl) (fun _ _ _ h => h) (Or.inl ⟨by kernel_rfl, ?_⟩) hHeld ?_
        rotate_left
        · (intro w hSw; (try dsimp only at hSw); have e0 := cell_keep C0.out HBL.out hSw; have e1 := cell_keep C1.out HBL.out hSw; go_simp); try with_reducible rfl
        try simp only [Act.put, List.setIfInBounds_toArray, List.set_cons_zero, List.set_cons_succ]
        refine wpAnyH_take (i := 2) (oi := { dst := some 20, op := Op.move (Operand.tmp 5), type := 3, pos := "ref.go:70", after := #[], guard := none }) (v := ?_) rfl (by kernel_rfl) (by kernel_rfl) (by kernel_rfl) (fun _ _ _ h => h) (Or.inl ⟨by kernel_rfl, ?_⟩) hHeld ?_
        rotate_left
        · (intro w hSw; (try dsimp only at hSw); have e0 := cell_keep C0.out HBL.out hSw; have e1 := cell_keep C1.out HBL.out hSw; go_simp); try with_reducible rfl
        try simp only [Act.put, List.setIfInBounds_toArray, List.set_cons_zero, List.set_cons_succ]
        refine wpAnyH_take (i := 3) (oi := { dst := some 21, op := Op.indexAddr 31 (Operand.tmp 19) (Operand.tmp 20), type := 0, pos := "ref.go:70", after := #[{ on := 1, ground := Ground.data }, { on := 2, ground := Ground.data }], guard := none }) (v := ?_) rfl (by kernel_rfl) (by kernel_rfl) (by kernel_rfl) (fun _ _ _ h => h) (Or.inl ⟨by kernel_rfl, ?_⟩) hHeld ?_
        rotate_left
        · (intro w hSw; (try dsimp only at hSw); have e0 := cell_keep C0.out HBL.out hSw; have e1 := cell_keep C1.out HBL.out hSw; go_simp); try with_reducible rfl
        try simp only [Act.put, List.setIfInBounds_toArray, List.set_cons_zero, List.set_cons_succ]
        refine wpAnyH_take (i := 4) (oi := { dst := some 22, op := Op.fieldAddr 82 (Operand.tmp 21) 0, type := 0, pos := "ref.go:70", after := #[{ on := 3, ground := Ground.data }], guard := none }) (v := ?_) rfl (by kernel_rfl) (by kernel_rfl) (by kernel_rfl) (fun _ _ _ h => h) (Or.inl ⟨by kernel_rfl, ?_⟩) hHeld ?_
        rotate_left
        · (intro w hSw; (try dsimp only at hSw); have e0 := cell_keep C0.out HBL.out hSw; have e1 := cell_keep C1.out HBL.out hSw; go_simp); try with_reducible rfl
        try simp only [Act.put, List.setIfInBounds_toArray, List.set_cons_zero, List.set_cons_succ]
        refine wpAnyH_take (i := 5) (oi := { dst := some 23, op := Op.load 3 (Operand.tmp 22), type := 3, pos := "ref.go:70", after := #[{ on := 4, ground := Ground.data }], guard := none }) (v := ?_) rfl (by kernel_rfl) (by kernel_rfl) (by kernel_rfl) (fun _ _ _ h => h) (Or.inl ⟨by kernel_rfl, ?_⟩) hHeld ?_
        rotate_left
        · (intro w hSw; (try dsimp only at hSw); have e0 := cell_keep C0.out HBL.out hSw; have e1 := cell_keep C1.out HBL.out hSw; go_simp); try with_reducible rfl
        try simp only [Act.put, List.setIfInBounds_toArray, List.set_cons_zero, List.set_cons_succ]
        refine wpAnyH_take (i := 6) (oi := { dst := some 24, op := Op.move (Operand.tmp 0), type := 31, pos := "ref.go:70", after := #[], guard := none }) (v := ?_) rfl (by kernel_rfl) (by kernel_rfl) (by kernel_rfl) (fun _ _ _ h => h) (Or.inl ⟨by kernel_rfl, ?_⟩) hHeld ?_
        rotate_left
        · (intro w hSw; (try dsimp only at hSw); have e0 := cell_keep C0.out HBL.out hSw; have e1 := cell_keep C1.out HBL.out hSw; go_simp); try with_reducible rfl
        try simp only [Act.put, List.setIfInBounds_toArray, List.set_cons_zero, List.set_cons_succ]
        refine wpAnyH_take (i := 7) (oi := { dst := some 25, op := Op.move (Operand.tmp 5), type := 3, pos := "ref.go:70", after := #[], guard := none }) (v := ?_) rfl (by kernel_rfl) (by kernel_rfl) (by kernel_rfl) (fun _ _ _ h => h) (Or.inl ⟨by kernel_rfl, ?_⟩) hHeld ?_
        rotate_left
        · (intro w hSw; (try dsimp only at hSw); have e0 := cell_keep C0.out HBL.out hSw; have e1 := cell_keep C1.out HBL.out hSw; go_simp); try with_reducible rfl
        try simp only [Act.put, List.setIfInBounds_toArray, List.set_cons_zero, List.set_cons_succ]
        refine wpAnyH_take (i := 8) (oi := { dst := some 26, op := Op.indexAddr 31 (Operand.tmp 24) (Operand.tmp 25), type := 0, pos := "ref.go:70", after := #[{ on := 6, ground := Ground.data }, { on := 7, ground := Ground.data }], guard := none }) (v := ?_) rfl (by kernel_rfl) (by kernel_rfl) (by kernel_rfl) (fun _ _ _ h => h) (Or.inl ⟨by kernel_rfl, ?_⟩) hHeld ?_
        rotate_left
        · (intro w hSw; (try dsimp only at hSw); have e0 := cell_keep C0.out HBL.out hSw; have e1 := cell_keep C1.out HBL.out hSw; go_simp); try with_reducible rfl
        try simp only [Act.put, List.setIfInBounds_toArray, List.set_cons_zero, List.set_cons_succ]
        refine wpAnyH_take (i := 9) (oi := { dst := some 27, op := Op.fieldAddr 82 (Operand.tmp 26) 1, type := 0, pos := "ref.go:70", after := #[{ on := 8, ground := Ground.data }], guard := none }) (v := ?_) rfl (by kernel_rfl) (by kernel_rfl) (by kernel_rfl) (fun _ _ _ h => h) (Or.inl ⟨by kernel_rfl, ?_⟩) hHeld ?_
        rotate_left
        · (intro w hSw; (try dsimp only at hSw); have e0 := cell_keep C0.out HBL.out hSw; have e1 := cell_keep C1.out HBL.out hSw; go_simp); try with_reducible rfl
        try simp only [Act.put, List.setIfInBounds_toArray, List.set_cons_zero, List.set_cons_succ]
        refine wpAnyH_take (i := 10) (oi := { dst := some 28, op := Op.load 2 (Operand.tmp 27), type := 2, pos := "ref.go:70", after := #[{ on := 9, ground := Ground.data }], guard := none }) (v := ?_) rfl (by kernel_rfl) (by kernel_rfl) (by kernel_rfl) (fun _ _ _ h => h) (Or.inl ⟨by kernel_rfl, ?_⟩) hHeld ?_
        rotate_left
        · (intro w hSw; (try dsimp only at hSw); have e0 := cell_keep C0.out HBL.out hSw; have e1 := cell_keep C1.out HBL.out hSw; go_simp); try with_reducible rfl
        try simp only [Act.put, List.setIfInBounds_toArray, List.set_cons_zero, List.set_cons_succ]
        refine wpAnyH_take (i := 11) (oi := { dst := some 29, op := Op.unOp UnOp.neg 2 (Operand.tmp 28), type := 2, pos := "ref.go:70", after := #[{ on := 10, ground := Ground.data }], guard := none }) (v := ?_) rfl (by kernel_rfl) (by kernel_rfl) (by kernel_rfl) (fun _ _ _ h => h) (Or.inl ⟨by kernel_rfl, ?_⟩) hHeld ?_
        rotate_left
        · (intro w hSw; (try dsimp only at hSw); have e0 := cell_keep C0.out HBL.out hSw; have e1 := cell_keep C1.out HBL.out hSw; go_simp); try with_reducible rfl
        try simp only [Act.put, List.setIfInBounds_toArray, List.set_cons_zero, List.set_cons_succ]
        refine wpAnyH_take (i := 12) (oi := { dst := some 30, op := Op.build 82 #[(0, Operand.tmp 23), (1, Operand.tmp 29)], type := 82, pos := "ref.go:70", after := #[{ on := 5, ground := Ground.data }, { on := 11, ground := Ground.data }], guard := none }) (v := ?_) rfl (by kernel_rfl) (by kernel_rfl) (by kernel_rfl) (fun _ _ _ h => h) (Or.inl ⟨by kernel_rfl, ?_⟩) hHeld ?_
        rotate_left
        · (intro w hSw; (try dsimp only at hSw); have e0 := cell_keep C0.out HBL.out hSw; have e1 := cell_keep C1.out HBL.out hSw; go_simp); try with_reducible rfl
        try simp only [Act.put, List.setIfInBounds_toArray, List.set_cons_zero, List.set_cons_succ]
        refine wpAnyH_ready (rs := [13]) (by kernel_rfl) (by simp) (AllReadyH.cons (o := { dst := some 31, op := Op.buildSlice 31 1 #[(0, Operand.tmp 30)], type := 31, pos := "ref.go:70", after := #[{ on := 12, ground := Ground.data }], guard := none }) rfl (fun K hK => ?_) AllReadyH.nil)
        have hOld := hide hHeld
        clear hHeld
        go_simp
        skip
        (try go_wp2_with fail)
        refine hK.out _ _ (B2.out) (fun hHeld => ?_)
        clear hK K hOld
        try simp only [Act.put, List.setIfInBounds_toArray, List.set_cons_zero, List.set_cons_succ]
        refine wpAnyH_ready (rs := [14]) (by kernel_rfl) (by simp) (AllReadyH.cons (o := { dst := some 32, op := Op.call { callee := Callee.builtin Builtin.append, args := #[Operand.tmp 18, Operand.tmp 31], argTypes := #[31, 31] }, type := 31, pos := "ref.go:70", after := #[{ on := 0, ground := Ground.data }, { on := 13, ground := Ground.data }], guard := none }) rfl (fun K hK => ?_) AllReadyH.nil)
        have hOld := hide hHeld
        clear hHeld
        refine wp_append_own2 _ (.tmp 18) (.tmp 31) 31 rfl w.heap.size 82 i0 (.agg #[.int .i64 0, .int .i64 0]) 2 16 Try.underlying31 HI.out HZ0.out HZ1.out HZ2.out rfl (by decide) (.slice a4 k c4) k ((negL (L.take k)).flatMap lnC) rfl OA2.out ⟨v0.heap.size, 0, none⟩ 1 1 (by decide) (lnC ⟨xc, -xn⟩) rfl rfl (cells_new XB.out) (lnC_one _) (by unfold maxLen; omega) (by omega) hws2 ?_
        intro g3 c3' w3 ho hgr hnil
        have OA3 := hide ho
        have B3 := hide (B2.out.grown hgr B2.out.size (fun jj h => (OA2.out.lt jj h).1))
        clear ho hgr hnil
        refine hK.out _ _ (B3.out) (fun hHeld => ?_)
        clear hK K hOld
        try simp only [Act.put, List.setIfInBounds_toArray, List.set_cons_zero, List.set_cons_succ]
        refine wpAnyH_take (i := 15) (oi := { dst := some 4, op := Op.assign (Operand.tmp 32), type := 31, pos := "ref.go:70", after := #[{ on := 14, ground := Ground.data }, { on := 14, ground := Ground.chain }, { on := 0, ground := Ground.phase }, { on := 1, ground := Ground.phase }, { on := 2, ground := Ground.phase }, { on := 3, ground := Ground.phase }, { on := 4, ground := Ground.phase }, { on := 5, ground := Ground.phase }, { on := 6, ground := Ground.phase }, { on := 7, ground := Ground.phase }, { on := 8, ground := Ground.phase }, { on := 9, ground := Ground.phase }, { on := 10, ground := Ground.phase }, { on := 11, ground := Ground.phase }, { on := 12, ground := Ground.phase }, { on := 13, ground := Ground.phase }, { on := 14, ground := Ground.phase }], guard := none }) (v := ?_) rfl (by kernel_rfl) (by kernel_rfl) (by kernel_rfl) (fun _ _ _ h => h) (Or.inl ⟨by kernel_rfl, ?_⟩) hHeld ?_
        rotate_left
        · (intro w hSw; (try dsimp only at hSw); have e0 := cell_keep C0.out HBL.out hSw; have e1 := cell_keep C1.out HBL.out hSw; go_simp); try with_reducible rfl
        try simp only [Act.put, List.setIfInBounds_toArray, List.set_cons_zero, List.set_cons_succ]
        refine wpAnyH_done (by kernel_rfl) ?_ _
        clear hHeld
        go_wp2_with fail
        go_roundw
        case rel => exact ⟨k + 1, _, _, by omega, by go_num, rfl, HN2.out, by rw [HTN.out, List.flatMap_append]; simpa [negX] using OA3.out, B3.out⟩
        case measure => simp [intOf]; omega
    · obtain rfl : k = L.length := by omega
      rw [List.take_length] at OA
      have HLN := hide (leastIn_no L HNO.out)
      go_wp2_with fail
      go_ret2
      exact ⟨.inl ⟨HLN.out, a4, c4, rfl, owns_cap OA.out, LnIn.of_owns (c := c4) (by rw [negL_len]; exact OA.out)⟩, BK.out⟩
end Go.Proofs.Ytjjldphbflbbdaa
