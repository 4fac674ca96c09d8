/-
  Layer 6: TagUnlike.
-/
import Derived.Test.YtoigejgpagoghaaLaw6b
import Derived.Deep.CutRange
import Derived.Deep.WholeRow
namespace Go.Proofs.Ytoigejgpagoghaa
set_option linter.unusedSimpArgs false
set_option linter.unusedVariables false
open Go.RowKit Go.WideShapes Go.ChangeShapes Go.ChangeAt

/-- two tags as they came in, the table, what is below -/
structure TU (w0 W : World) (A : Nat) (T U : Array Value) (pb : Nat) : Prop where
  one : W.heap[A]? = some (.cells T 24 (0, 0))
  two : W.heap[A + 1]? = some (.cells U 24 (0, 0))
  tab : TabAt W pb 0
  below : Below w0.heap.size w0 W
theorem TU.kept {w0 W W' : World} {A : Nat} {T U : Array Value} {pb : Nat} (h : TU w0 W A T U pb) (hb : Below W.heap.size W W') : TU w0 W' A T U pb :=
  ⟨(hb.block _ (heap_lt h.one)).trans h.one, (hb.block _ (heap_lt h.two)).trans h.two, tabAt_kept h.tab hb, below_trans h.below hb⟩
theorem TU.alloc {w0 W : World} {A : Nat} {T U : Array Value} {pb : Nat} (h : TU w0 W A T U pb) (o : Obj) : TU w0 (W.alloc o) A T U pb := h.kept ((Below.refl _ _).alloc (Nat.le_refl _) _)
theorem TU.drew {w0 W : World} {A : Nat} {T U : Array Value} {pb : Nat} (h : TU w0 W A T U pb) : TU w0 W.drew A T U pb := ⟨h.one, h.two, h.tab, h.below.drew⟩
theorem TU.set {w0 W : World} {A : Nat} {T U : Array Value} {pb : Nat} (h : TU w0 W A T U pb) (q j : Nat) (v : Value) (h1 : q ≠ A) (h2 : q ≠ A + 1) (h3 : q ≠ pb) (h4 : w0.heap.size ≤ q) : TU w0 (W.setCell ⟨q, j, none⟩ v) A T U pb :=
  ⟨by rw [block_setCell_other h1]; exact h.one, by rw [block_setCell_other h2]; exact h.two, fun k hk => by have := h.tab k hk; simp only [World.cell?, block_setCell_other h3] at this ⊢; exact this, h.below.setCell h4 _⟩
theorem TU.row {w0 W : World} {A : Nat} {T U : Array Value} {pb : Nat} (h : TU w0 W A T U pb) (q : Nat) (h1 : q ≠ A) (h2 : q ≠ A + 1) (h3 : q ≠ pb) (h4 : w0.heap.size ≤ q) (cs : Array Value) : TU w0 (W.setRow q cs) A T U pb :=
  ⟨(setRow_other W q A cs (Ne.symm h1)).trans h.one, (setRow_other W q _ cs (Ne.symm h2)).trans h.two, fun k hk => by have := h.tab k hk; simp only [World.cell?, setRow_other W q pb cs (Ne.symm h3)] at this ⊢; exact this, below_setRow h.below h4 cs⟩
theorem TU.new {w w1 : World} {k l s p n k' l' s' p' n' : Int} (hb : Below ((w.alloc (.cells (tagC k l s p n) 24)).alloc (.cells (tagC k' l' s' p' n') 24)).heap.size ((w.alloc (.cells (tagC k l s p n) 24)).alloc (.cells (tagC k' l' s' p' n') 24)) w1) :
    TU w (w1.alloc (.cells (tabC 256) 27)) w.heap.size (tagC k l s p n) (tagC k' l' s' p' n') w1.heap.size := by
  have hsz : ((w.alloc (.cells (tagC k l s p n) 24)).alloc (.cells (tagC k' l' s' p' n') 24)).heap.size = w.heap.size + 2 := by rw [heap_alloc_sz, heap_alloc_sz]
  have h2 := hb.size
  have h3 := new2 w (.cells (tagC k l s p n) 24) (.cells (tagC k' l' s' p' n') 24)
  have h4 := (heap_old (w.alloc (.cells (tagC k l s p n) 24)) (.cells (tagC k' l' s' p' n') 24) w.heap.size (by rw [heap_alloc_sz]; omega)).trans (heap_new w _)
  have h5 := hb.block w.heap.size (by rw [hsz]; omega)
  have h6 := hb.block (w.heap.size + 1) (by rw [hsz]; omega)
  rw [hsz] at h2
  exact ⟨(heap_old w1 _ _ (by omega)).trans (h5.trans h4), (heap_old w1 _ _ (by omega)).trans (h6.trans h3), tabAt_new w1, (below_trans (below2 _ _ _) hb).alloc (below_trans (below2 _ _ _) hb).size _⟩
/-- the cells of both -/
def SU (A : Nat) (k l s p n k' l' s' p' n' : Int) (W : World) : Prop :=
  (W.cell? ⟨A, 0, none⟩ = some (.int .u8 k) ∧ W.cell? ⟨A, 1, none⟩ = some (.int .i64 l) ∧ W.cell? ⟨A, 2, none⟩ = some (.int .u64 s) ∧ W.cell? ⟨A, 3, none⟩ = some (.int .i64 p) ∧ W.cell? ⟨A, 4, none⟩ = some (.int .i64 n)) ∧
  (W.cell? ⟨A + 1, 0, none⟩ = some (.int .u8 k') ∧ W.cell? ⟨A + 1, 1, none⟩ = some (.int .i64 l') ∧ W.cell? ⟨A + 1, 2, none⟩ = some (.int .u64 s') ∧ W.cell? ⟨A + 1, 3, none⟩ = some (.int .i64 p') ∧ W.cell? ⟨A + 1, 4, none⟩ = some (.int .i64 n'))
theorem SU.of {w0 W : World} {A : Nat} {k l s p n k' l' s' p' n' : Int} {pb : Nat} (h : TU w0 W A (tagC k l s p n) (tagC k' l' s' p' n') pb) : SU A k l s p n k' l' s' p' n' W := ⟨(tagC_cells h.one).1, (tagC_cells h.two).1⟩
theorem tagC_one (a b c d e : Int) : (tagC a b c d e).all (·.oneCell') = true := by simp [tagC, Value.oneCell']
theorem heapNew (W : World) (o : Obj) : (W.alloc o).heap[W.heap.size]? = some o := heap_new W o
set_option maxRecDepth 100000 in
set_option maxHeartbeats 16000000 in
theorem tagUnlike_walk (k l s p n : Int) (k0 : 0 ≤ k) (k1 : k ≤ 255) (s0 : 0 ≤ s) (s1 : s ≤ 18446744073709551615) (k' l' s' p' n' : Int) (k0' : 0 ≤ k') (k1' : k' ≤ 255) (s0' : 0 ≤ s') (s1' : s' ≤ 18446744073709551615) (data : ByteArray) (hd : data.size ≤ 9223372036854775807) (w : World) :
    Calls Try.prog 6 #[.agg #[.int .u8 k, .int .i64 l, .int .u64 s, .int .i64 p, .int .i64 n], .agg #[.int .u8 k', .int .i64 l', .int .u64 s', .int .i64 p', .int .i64 n'], .string data] w fun e w' => e = .returned (.bool true) ∧ Below w.heap.size w w' := by
  have z := (zero_of_info tab_zero).1
  have hsz := tabC_size 256
  have hst := tab_store
  have hm1 : (min (data.size : Int) 100) ≤ data.size := by omega
  have hm3 : 0 ≤ (min (data.size : Int) 100) := by omega
  obtain ⟨D, hD, hDl⟩ := cut_list data 100 (by omega)
  have HD := hide hD
  have hok := tame_ok k l p n k0
  have HTA := hide (fun W => tame_any k l s p n k0 k1 W)
  generalize tkZ k = tk at *
  generalize tlZ l = tl at *
  generalize tpZ p n = tp at *
  generalize tnZ n = tn at *
  have HOF := hide (fun W => of_tag tk tl s tp tn W)
  have hok' := tame_ok k' l' p' n' k0'
  have HTA2 := hide (fun W => tame_any k' l' s' p' n' k0' k1' W)
  generalize tkZ k' = tk' at *
  generalize tlZ l' = tl' at *
  generalize tpZ p' n' = tp' at *
  generalize tnZ n' = tn' at *
  have HOF2 := hide (fun W => of_tag tk' tl' s' tp' tn' W)
  clear hD
  go_enter Try.func6, Try.ntmps6
  go_wp2_with fail
  rw [HD.out]
  clear HD hm1 hm3 hd
  refine (make_any _).mono ?_
  rintro e w1 ⟨rfl, hb⟩
  have HT := hide (TU.new (k := k) (l := l) (s := s) (p := p) (n := n) (k' := k') (l' := l') (s' := s') (p' := p') (n' := n') hb)
  clear hb
  go_upto_region 3 with (fail)
  generalize hW3 : w1.alloc (.cells (tabC 256) 27) = W3 at *
  generalize w1.heap.size = pb at *
  have HT3 := hide HT.out.drew
  clear HT hW3
  go_cut [8, 9] from 20 to 25 (fun p8 p9 wx => ∃ A8 A9, p8 = .pointer (some ⟨A8, 0, none⟩) ∧ p9 = .pointer (some ⟨A9, 0, none⟩) ∧ wx.heap[A8]? = some (.cells (tagC tk tl s tp tn) 37 (0, 0)) ∧ wx.heap[A9]? = some (.cells (tagC tk' tl' s' tp' tn') 37 (0, 0)) ∧ TabAt wx pb 0 ∧ Below w.heap.size w wx)
  case first =>
    refine wp_region_held_drew (S := (SU w.heap.size k l s p n k' l' s' p' n')) (by kernel_rfl) (SU.of HT3.out) (fun hHeld => ?_)
    generalize W3.drew = v0 at *
    refine wpAnyH_take (i := 0) (oi := { dst := some 20, op := Op.load 24 (Operand.tmp 3), type := 24, pos := "law.go:107", after := #[], guard := none }) (v := ?_) rfl (by kernel_rfl) (by kernel_rfl) (by kernel_rfl) (fun _ _ _ h => h) (Or.inl ⟨by kernel_rfl, ?_⟩) hHeld ?_
    rotate_left
    · (intro w hSw; (try dsimp only at hSw); (try unfold SU at hSw); go_simp); try with_reducible rfl
    try simp only [Act.put, List.setIfInBounds_toArray, List.set_cons_zero, List.set_cons_succ]
    refine wpAnyH_take (i := 3) (oi := { dst := some 23, op := Op.load 24 (Operand.tmp 4), type := 24, pos := "law.go:107", after := #[], guard := none }) (v := ?_) rfl (by kernel_rfl) (by kernel_rfl) (by kernel_rfl) (fun _ _ _ h => h) (Or.inl ⟨by kernel_rfl, ?_⟩) hHeld ?_
    rotate_left
    · (intro w hSw; (try dsimp only at hSw); (try unfold SU at hSw); go_simp); try with_reducible rfl
    try simp only [Act.put, List.setIfInBounds_toArray, List.set_cons_zero, List.set_cons_succ]
    refine wpAnyH_ready (rs := [1, 6, 7]) (by kernel_rfl) (by simp) (AllReadyH.cons (o := { dst := some 21, op := Op.call { callee := Callee.value (Operand.func 8), args := #[Operand.tmp 20], argTypes := #[24] }, type := 24, pos := "law.go:107", after := #[{ on := 0, ground := Ground.data }], guard := none }) rfl (fun K hK => ?_) (AllReadyH.cons (o := { dst := some 8, op := Op.alloc 37, type := 0, pos := "law.go:107", after := #[], guard := none }) rfl (fun K hK => ?_) (AllReadyH.cons (o := { dst := some 9, op := Op.alloc 37, type := 0, pos := "law.go:107", after := #[], guard := none }) rfl (fun K hK => ?_) AllReadyH.nil)))
    · have hOld := hide hHeld
      clear hHeld
      go_simp
      refine (HTA.out _).mono ?_
      rintro e v1 ⟨rfl, hb⟩
      have HTx1 := hide (HT3.out.kept hb)
      clear hb
      (try go_wp2_with fail)
      refine hK.out _ _ (SU.of HTx1.out) (fun hHeld => ?_)
      clear hK K hOld
      try simp only [Act.put, List.setIfInBounds_toArray, List.set_cons_zero, List.set_cons_succ]
      refine wpAnyH_ready (rs := [2, 6, 7]) (by kernel_rfl) (by simp) (AllReadyH.cons (o := { dst := some 22, op := Op.call { callee := Callee.value (Operand.func 10), args := #[Operand.tmp 21], argTypes := #[24] }, type := 37, pos := "law.go:107", after := #[{ on := 1, ground := Ground.data }, { on := 1, ground := Ground.chain }], guard := none }) rfl (fun K hK => ?_) (AllReadyH.cons (o := { dst := some 8, op := Op.alloc 37, type := 0, pos := "law.go:107", after := #[], guard := none }) rfl (fun K hK => ?_) (AllReadyH.cons (o := { dst := some 9, op := Op.alloc 37, type := 0, pos := "law.go:107", after := #[], guard := none }) rfl (fun K hK => ?_) AllReadyH.nil)))
      · have hOld := hide hHeld
        clear hHeld
        go_simp
        refine (HOF.out _).mono ?_
        rintro e v2 ⟨rfl, hb⟩
        have HTx2 := hide (HTx1.out.kept hb)
        clear hb
        (try go_wp2_with fail)
        refine hK.out _ _ (SU.of HTx2.out) (fun hHeld => ?_)
        clear hK K hOld
        try simp only [Act.put, List.setIfInBounds_toArray, List.set_cons_zero, List.set_cons_succ]
        refine wpAnyH_ready (rs := [4, 6, 7]) (by kernel_rfl) (by simp) (AllReadyH.cons (o := { dst := some 24, op := Op.call { callee := Callee.value (Operand.func 8), args := #[Operand.tmp 23], argTypes := #[24] }, type := 24, pos := "law.go:107", after := #[{ on := 3, ground := Ground.data }, { on := 2, ground := Ground.chain }], guard := none }) rfl (fun K hK => ?_) (AllReadyH.cons (o := { dst := some 8, op := Op.alloc 37, type := 0, pos := "law.go:107", after := #[], guard := none }) rfl (fun K hK => ?_) (AllReadyH.cons (o := { dst := some 9, op := Op.alloc 37, type := 0, pos := "law.go:107", after := #[], guard := none }) rfl (fun K hK => ?_) AllReadyH.nil)))
        · have hOld := hide hHeld
          clear hHeld
          go_simp
          refine (HTA2.out _).mono ?_
          rintro e v3 ⟨rfl, hb⟩
          have HTx3 := hide (HTx2.out.kept hb)
          clear hb
          (try go_wp2_with fail)
          refine hK.out _ _ (SU.of HTx3.out) (fun hHeld => ?_)
          clear hK K hOld
          try simp only [Act.put, List.setIfInBounds_toArray, List.set_cons_zero, List.set_cons_succ]
          refine wpAnyH_ready (rs := [5, 6, 7]) (by kernel_rfl) (by simp) (AllReadyH.cons (o := { dst := some 25, op := Op.call { callee := Callee.value (Operand.func 10), args := #[Operand.tmp 24], argTypes := #[24] }, type := 37, pos := "law.go:107", after := #[{ on := 4, ground := Ground.data }, { on := 4, ground := Ground.chain }], guard := none }) rfl (fun K hK => ?_) (AllReadyH.cons (o := { dst := some 8, op := Op.alloc 37, type := 0, pos := "law.go:107", after := #[], guard := none }) rfl (fun K hK => ?_) (AllReadyH.cons (o := { dst := some 9, op := Op.alloc 37, type := 0, pos := "law.go:107", after := #[], guard := none }) rfl (fun K hK => ?_) AllReadyH.nil)))
          · have hOld := hide hHeld
            clear hHeld
            go_simp
            refine (HOF2.out _).mono ?_
            rintro e v4 ⟨rfl, hb⟩
            have HTx4 := hide (HTx3.out.kept hb)
            clear hb
            (try go_wp2_with fail)
            refine hK.out _ _ (SU.of HTx4.out) (fun hHeld => ?_)
            clear hK K hOld
            try simp only [Act.put, List.setIfInBounds_toArray, List.set_cons_zero, List.set_cons_succ]
            refine wpAnyH_ready (rs := [6, 7]) (by kernel_rfl) (by simp) (AllReadyH.cons (o := { dst := some 8, op := Op.alloc 37, type := 0, pos := "law.go:107", after := #[], guard := none }) rfl (fun K hK => ?_) (AllReadyH.cons (o := { dst := some 9, op := Op.alloc 37, type := 0, pos := "law.go:107", after := #[], guard := none }) rfl (fun K hK => ?_) AllReadyH.nil))
            · have hOld := hide hHeld
              clear hHeld
              go_simp
              have HTx5 := hide (HTx4.out.alloc (Obj.cells #[.int .u8 0, .int .i64 0, .int .u64 0, .int .i64 0, .int .i64 0] 37))
              have HZ6x5 := hide (show (World.alloc v4 (Obj.cells #[.int .u8 0, .int .i64 0, .int .u64 0, .int .i64 0, .int .i64 0] 37)).heap[v4.heap.size]? = some (.cells (tagC 0 0 0 0 0) 37 (0, 0)) from heapNew v4 (Obj.cells #[.int .u8 0, .int .i64 0, .int .u64 0, .int .i64 0, .int .i64 0] 37))
              have hn6 : w.heap.size + 1 < v4.heap.size ∧ pb < v4.heap.size := ⟨heap_lt HTx4.out.two, tabAt_lt HTx4.out.tab⟩
              generalize World.alloc v4 (Obj.cells #[.int .u8 0, .int .i64 0, .int .u64 0, .int .i64 0, .int .i64 0] 37) = v5 at *
              (try go_wp2_with fail)
              refine hK.out _ _ (SU.of HTx5.out) (fun hHeld => ?_)
              clear hK K hOld
              try simp only [Act.put, List.setIfInBounds_toArray, List.set_cons_zero, List.set_cons_succ]
              refine wpAnyH_ready (rs := [7]) (by kernel_rfl) (by simp) (AllReadyH.cons (o := { dst := some 9, op := Op.alloc 37, type := 0, pos := "law.go:107", after := #[], guard := none }) rfl (fun K hK => ?_) AllReadyH.nil)
              have hOld := hide hHeld
              clear hHeld
              go_simp
              have HTx6 := hide (HTx5.out.alloc (Obj.cells #[.int .u8 0, .int .i64 0, .int .u64 0, .int .i64 0, .int .i64 0] 37))
              have HZ6x6 := hide ((heap_old _ (Obj.cells #[.int .u8 0, .int .i64 0, .int .u64 0, .int .i64 0, .int .i64 0] 37) _ (heap_lt HZ6x5.out)).trans HZ6x5.out)
              have HZ7x6 := hide (show (World.alloc v5 (Obj.cells #[.int .u8 0, .int .i64 0, .int .u64 0, .int .i64 0, .int .i64 0] 37)).heap[v5.heap.size]? = some (.cells (tagC 0 0 0 0 0) 37 (0, 0)) from heapNew v5 (Obj.cells #[.int .u8 0, .int .i64 0, .int .u64 0, .int .i64 0, .int .i64 0] 37))
              have hn7 : w.heap.size + 1 < v5.heap.size ∧ pb < v5.heap.size := ⟨heap_lt HTx5.out.two, tabAt_lt HTx5.out.tab⟩
              have hzz : v4.heap.size < v5.heap.size := heap_lt HZ6x5.out
              generalize World.alloc v5 (Obj.cells #[.int .u8 0, .int .i64 0, .int .u64 0, .int .i64 0, .int .i64 0] 37) = v6 at *
              (try go_wp2_with fail)
              refine hK.out _ _ (SU.of HTx6.out) (fun hHeld => ?_)
              clear hK K hOld
              try simp only [Act.put, List.setIfInBounds_toArray, List.set_cons_zero, List.set_cons_succ]
              refine wpAnyH_ready (rs := [8]) (by kernel_rfl) (by simp) (AllReadyH.cons (o := { dst := none, op := Op.store 37 (Operand.tmp 8) (Operand.tmp 22), type := 0, pos := "law.go:107", after := #[{ on := 6, ground := Ground.data }, { on := 2, ground := Ground.data }, { on := 5, ground := Ground.chain }, { on := 0, ground := Ground.phase }, { on := 1, ground := Ground.phase }, { on := 2, ground := Ground.phase }, { on := 3, ground := Ground.textOnly Departure.lateStores }, { on := 4, ground := Ground.textOnly Departure.lateStoresUnsure }, { on := 5, ground := Ground.textOnly Departure.lateStoresUnsure }, { on := 6, ground := Ground.phase }, { on := 7, ground := Ground.phase }], guard := none }) rfl (fun K hK => ?_) AllReadyH.nil)
              have hOld := hide hHeld
              clear hHeld
              have HZ6x7 := hide (show (World.setRow v6 v4.heap.size (tagC tk tl s tp tn)).heap[v4.heap.size]? = some (.cells (tagC tk tl s tp tn) 37 (0, 0)) from setRow_heap _ _ _ _ _ _ HZ6x6.out)
              have HZ7x7 := hide ((setRow_other v6 v4.heap.size v5.heap.size (tagC tk tl s tp tn) (by omega)).trans HZ7x6.out)
              have HTx7 := hide (HTx6.out.row v4.heap.size (by omega) (by omega) (by omega) (by omega) (tagC tk tl s tp tn))
              refine wp_store_row 37 (.tmp 8) (.tmp 22) rfl (v4.heap.size) rfl (tagC tk tl s tp tn) rfl (tagC 0 0 0 0 0) HZ6x6.out (tag_size _ _ _ _ _) rfl (tagC_one _ _ _ _ _) ?_
              generalize (World.setRow v6 v4.heap.size (tagC tk tl s tp tn)) = v7 at *
              refine hK.out _ _ (SU.of HTx7.out) (fun hHeld => ?_)
              clear hK K hOld
              try simp only [Act.put, List.setIfInBounds_toArray, List.set_cons_zero, List.set_cons_succ]
              refine wpAnyH_ready (rs := [9]) (by kernel_rfl) (by simp) (AllReadyH.cons (o := { dst := none, op := Op.store 37 (Operand.tmp 9) (Operand.tmp 25), type := 0, pos := "law.go:107", after := #[{ on := 7, ground := Ground.data }, { on := 5, ground := Ground.data }, { on := 8, ground := Ground.chain }, { on := 0, ground := Ground.phase }, { on := 1, ground := Ground.phase }, { on := 2, ground := Ground.phase }, { on := 3, ground := Ground.phase }, { on := 4, ground := Ground.phase }, { on := 5, ground := Ground.phase }, { on := 6, ground := Ground.phase }, { on := 7, ground := Ground.phase }, { on := 8, ground := Ground.phase }], guard := none }) rfl (fun K hK => ?_) AllReadyH.nil)
              have hOld := hide hHeld
              clear hHeld
              have HZ7x8 := hide (show (World.setRow v7 v5.heap.size (tagC tk' tl' s' tp' tn')).heap[v5.heap.size]? = some (.cells (tagC tk' tl' s' tp' tn') 37 (0, 0)) from setRow_heap _ _ _ _ _ _ HZ7x7.out)
              have HZ6x8 := hide ((setRow_other v7 v5.heap.size v4.heap.size (tagC tk' tl' s' tp' tn') (by omega)).trans HZ6x7.out)
              have HTx8 := hide (HTx7.out.row v5.heap.size (by omega) (by omega) (by omega) (by omega) (tagC tk' tl' s' tp' tn'))
              refine wp_store_row 37 (.tmp 9) (.tmp 25) rfl (v5.heap.size) rfl (tagC tk' tl' s' tp' tn') rfl (tagC 0 0 0 0 0) HZ7x7.out (tag_size _ _ _ _ _) rfl (tagC_one _ _ _ _ _) ?_
              generalize (World.setRow v7 v5.heap.size (tagC tk' tl' s' tp' tn')) = v8 at *
              refine hK.out _ _ (SU.of HTx8.out) (fun hHeld => ?_)
              clear hK K hOld
              try simp only [Act.put, List.setIfInBounds_toArray, List.set_cons_zero, List.set_cons_succ]
              refine wpAnyH_done (by kernel_rfl) ?_ _
              go_wp2_with fail
              go_meet
              exact ⟨_, _, rfl, rfl, HZ6x8.out, HZ7x8.out, HTx8.out.tab, HTx8.out.below⟩
            · have hOld := hide hHeld
              clear hHeld
              go_simp
              have HTx5 := hide (HTx4.out.alloc (Obj.cells #[.int .u8 0, .int .i64 0, .int .u64 0, .int .i64 0, .int .i64 0] 37))
              have HZ7x5 := hide (show (World.alloc v4 (Obj.cells #[.int .u8 0, .int .i64 0, .int .u64 0, .int .i64 0, .int .i64 0] 37)).heap[v4.heap.size]? = some (.cells (tagC 0 0 0 0 0) 37 (0, 0)) from heapNew v4 (Obj.cells #[.int .u8 0, .int .i64 0, .int .u64 0, .int .i64 0, .int .i64 0] 37))
              have hn7 : w.heap.size + 1 < v4.heap.size ∧ pb < v4.heap.size := ⟨heap_lt HTx4.out.two, tabAt_lt HTx4.out.tab⟩
              generalize World.alloc v4 (Obj.cells #[.int .u8 0, .int .i64 0, .int .u64 0, .int .i64 0, .int .i64 0] 37) = v5 at *
              (try go_wp2_with fail)
              refine hK.out _ _ (SU.of HTx5.out) (fun hHeld => ?_)
              clear hK K hOld
              try simp only [Act.put, List.setIfInBounds_toArray, List.set_cons_zero, List.set_cons_succ]
              refine wpAnyH_ready (rs := [6]) (by kernel_rfl) (by simp) (AllReadyH.cons (o := { dst := some 8, op := Op.alloc 37, type := 0, pos := "law.go:107", after := #[], guard := none }) rfl (fun K hK => ?_) AllReadyH.nil)
              have hOld := hide hHeld
              clear hHeld
              go_simp
              have HTx6 := hide (HTx5.out.alloc (Obj.cells #[.int .u8 0, .int .i64 0, .int .u64 0, .int .i64 0, .int .i64 0] 37))
              have HZ7x6 := hide ((heap_old _ (Obj.cells #[.int .u8 0, .int .i64 0, .int .u64 0, .int .i64 0, .int .i64 0] 37) _ (heap_lt HZ7x5.out)).trans HZ7x5.out)
              have HZ6x6 := hide (show (World.alloc v5 (Obj.cells #[.int .u8 0, .int .i64 0, .int .u64 0, .int .i64 0, .int .i64 0] 37)).heap[v5.heap.size]? = some (.cells (tagC 0 0 0 0 0) 37 (0, 0)) from heapNew v5 (Obj.cells #[.int .u8 0, .int .i64 0, .int .u64 0, .int .i64 0, .int .i64 0] 37))
              have hn6 : w.heap.size + 1 < v5.heap.size ∧ pb < v5.heap.size := ⟨heap_lt HTx5.out.two, tabAt_lt HTx5.out.tab⟩
              have hzz : v4.heap.size < v5.heap.size := heap_lt HZ7x5.out
              generalize World.alloc v5 (Obj.cells #[.int .u8 0, .int .i64 0, .int .u64 0, .int .i64 0, .int .i64 0] 37) = v6 at *
              (try go_wp2_with fail)
              refine hK.out _ _ (SU.of HTx6.out) (fun hHeld => ?_)
              clear hK K hOld
              try simp only [Act.put, List.setIfInBounds_toArray, List.set_cons_zero, List.set_cons_succ]
              refine wpAnyH_ready (rs := [8]) (by kernel_rfl) (by simp) (AllReadyH.cons (o := { dst := none, op := Op.store 37 (Operand.tmp 8) (Operand.tmp 22), type := 0, pos := "law.go:107", after := #[{ on := 6, ground := Ground.data }, { on := 2, ground := Ground.data }, { on := 5, ground := Ground.chain }, { on := 0, ground := Ground.phase }, { on := 1, ground := Ground.phase }, { on := 2, ground := Ground.phase }, { on := 3, ground := Ground.textOnly Departure.lateStores }, { on := 4, ground := Ground.textOnly Departure.lateStoresUnsure }, { on := 5, ground := Ground.textOnly Departure.lateStoresUnsure }, { on := 6, ground := Ground.phase }, { on := 7, ground := Ground.phase }], guard := none }) rfl (fun K hK => ?_) AllReadyH.nil)
              have hOld := hide hHeld
              clear hHeld
              have HZ6x7 := hide (show (World.setRow v6 v5.heap.size (tagC tk tl s tp tn)).heap[v5.heap.size]? = some (.cells (tagC tk tl s tp tn) 37 (0, 0)) from setRow_heap _ _ _ _ _ _ HZ6x6.out)
              have HZ7x7 := hide ((setRow_other v6 v5.heap.size v4.heap.size (tagC tk tl s tp tn) (by omega)).trans HZ7x6.out)
              have HTx7 := hide (HTx6.out.row v5.heap.size (by omega) (by omega) (by omega) (by omega) (tagC tk tl s tp tn))
              refine wp_store_row 37 (.tmp 8) (.tmp 22) rfl (v5.heap.size) rfl (tagC tk tl s tp tn) rfl (tagC 0 0 0 0 0) HZ6x6.out (tag_size _ _ _ _ _) rfl (tagC_one _ _ _ _ _) ?_
              generalize (World.setRow v6 v5.heap.size (tagC tk tl s tp tn)) = v7 at *
              refine hK.out _ _ (SU.of HTx7.out) (fun hHeld => ?_)
              clear hK K hOld
              try simp only [Act.put, List.setIfInBounds_toArray, List.set_cons_zero, List.set_cons_succ]
              refine wpAnyH_ready (rs := [9]) (by kernel_rfl) (by simp) (AllReadyH.cons (o := { dst := none, op := Op.store 37 (Operand.tmp 9) (Operand.tmp 25), type := 0, pos := "law.go:107", after := #[{ on := 7, ground := Ground.data }, { on := 5, ground := Ground.data }, { on := 8, ground := Ground.chain }, { on := 0, ground := Ground.phase }, { on := 1, ground := Ground.phase }, { on := 2, ground := Ground.phase }, { on := 3, ground := Ground.phase }, { on := 4, ground := Ground.phase }, { on := 5, ground := Ground.phase }, { on := 6, ground := Ground.phase }, { on := 7, ground := Ground.phase }, { on := 8, ground := Ground.phase }], guard := none }) rfl (fun K hK => ?_) AllReadyH.nil)
              have hOld := hide hHeld
              clear hHeld
              have HZ7x8 := hide (show (World.setRow v7 v4.heap.size (tagC tk' tl' s' tp' tn')).heap[v4.heap.size]? = some (.cells (tagC tk' tl' s' tp' tn') 37 (0, 0)) from setRow_heap _ _ _ _ _ _ HZ7x7.out)
              have HZ6x8 := hide ((setRow_other v7 v4.heap.size v5.heap.size (tagC tk' tl' s' tp' tn') (by omega)).trans HZ6x7.out)
              have HTx8 := hide (HTx7.out.row v4.heap.size (by omega) (by omega) (by omega) (by omega) (tagC tk' tl' s' tp' tn'))
              refine wp_store_row 37 (.tmp 9) (.tmp 25) rfl (v4.heap.size) rfl (tagC tk' tl' s' tp' tn') rfl (tagC 0 0 0 0 0) HZ7x7.out (tag_size _ _ _ _ _) rfl (tagC_one _ _ _ _ _) ?_
              generalize (World.setRow v7 v4.heap.size (tagC tk' tl' s' tp' tn')) = v8 at *
              refine hK.out _ _ (SU.of HTx8.out) (fun hHeld => ?_)
              clear hK K hOld
              try simp only [Act.put, List.setIfInBounds_toArray, List.set_cons_zero, List.set_cons_succ]
              refine wpAnyH_done (by kernel_rfl) ?_ _
              go_wp2_with fail
              go_meet
              exact ⟨_, _, rfl, rfl, HZ6x8.out, HZ7x8.out, HTx8.out.tab, HTx8.out.below⟩
          · have hOld := hide hHeld
            clear hHeld
            go_simp
            have HTx4 := hide (HTx3.out.alloc (Obj.cells #[.int .u8 0, .int .i64 0, .int .u64 0, .int .i64 0, .int .i64 0] 37))
            have HZ6x4 := hide (show (World.alloc v3 (Obj.cells #[.int .u8 0, .int .i64 0, .int .u64 0, .int .i64 0, .int .i64 0] 37)).heap[v3.heap.size]? = some (.cells (tagC 0 0 0 0 0) 37 (0, 0)) from heapNew v3 (Obj.cells #[.int .u8 0, .int .i64 0, .int .u64 0, .int .i64 0, .int .i64 0] 37))
            have hn6 : w.heap.size + 1 < v3.heap.size ∧ pb < v3.heap.size := ⟨heap_lt HTx3.out.two, tabAt_lt HTx3.out.tab⟩
            generalize World.alloc v3 (Obj.cells #[.int .u8 0, .int .i64 0, .int .u64 0, .int .i64 0, .int .i64 0] 37) = v4 at *
            (try go_wp2_with fail)
            refine hK.out _ _ (SU.of HTx4.out) (fun hHeld => ?_)
            clear hK K hOld
            try simp only [Act.put, List.setIfInBounds_toArray, List.set_cons_zero, List.set_cons_succ]
            refine wpAnyH_ready (rs := [5, 7]) (by kernel_rfl) (by simp) (AllReadyH.cons (o := { dst := some 25, op := Op.call { callee := Callee.value (Operand.func 10), args := #[Operand.tmp 24], argTypes := #[24] }, type := 37, pos := "law.go:107", after := #[{ on := 4, ground := Ground.data }, { on := 4, ground := Ground.chain }], guard := none }) rfl (fun K hK => ?_) (AllReadyH.cons (o := { dst := some 9, op := Op.alloc 37, type := 0, pos := "law.go:107", after := #[], guard := none }) rfl (fun K hK => ?_) AllReadyH.nil))
            · have hOld := hide hHeld
              clear hHeld
              go_simp
              refine (HOF2.out _).mono ?_
              rintro e v5 ⟨rfl, hb⟩
              have HTx5 := hide (HTx4.out.kept hb)
              have HZ6x5 := hide ((hb.block _ (heap_lt HZ6x4.out)).trans HZ6x4.out)
              clear hb
              (try go_wp2_with fail)
              refine hK.out _ _ (SU.of HTx5.out) (fun hHeld => ?_)
              clear hK K hOld
              try simp only [Act.put, List.setIfInBounds_toArray, List.set_cons_zero, List.set_cons_succ]
              refine wpAnyH_ready (rs := [7]) (by kernel_rfl) (by simp) (AllReadyH.cons (o := { dst := some 9, op := Op.alloc 37, type := 0, pos := "law.go:107", after := #[], guard := none }) rfl (fun K hK => ?_) AllReadyH.nil)
              have hOld := hide hHeld
              clear hHeld
              go_simp
              have HTx6 := hide (HTx5.out.alloc (Obj.cells #[.int .u8 0, .int .i64 0, .int .u64 0, .int .i64 0, .int .i64 0] 37))
              have HZ6x6 := hide ((heap_old _ (Obj.cells #[.int .u8 0, .int .i64 0, .int .u64 0, .int .i64 0, .int .i64 0] 37) _ (heap_lt HZ6x5.out)).trans HZ6x5.out)
              have HZ7x6 := hide (show (World.alloc v5 (Obj.cells #[.int .u8 0, .int .i64 0, .int .u64 0, .int .i64 0, .int .i64 0] 37)).heap[v5.heap.size]? = some (.cells (tagC 0 0 0 0 0) 37 (0, 0)) from heapNew v5 (Obj.cells #[.int .u8 0, .int .i64 0, .int .u64 0, .int .i64 0, .int .i64 0] 37))
              have hn7 : w.heap.size + 1 < v5.heap.size ∧ pb < v5.heap.size := ⟨heap_lt HTx5.out.two, tabAt_lt HTx5.out.tab⟩
              have hzz : v3.heap.size < v5.heap.size := heap_lt HZ6x5.out
              generalize World.alloc v5 (Obj.cells #[.int .u8 0, .int .i64 0, .int .u64 0, .int .i64 0, .int .i64 0] 37) = v6 at *
              (try go_wp2_with fail)
              refine hK.out _ _ (SU.of HTx6.out) (fun hHeld => ?_)
              clear hK K hOld
              try simp only [Act.put, List.setIfInBounds_toArray, List.set_cons_zero, List.set_cons_succ]
              refine wpAnyH_ready (rs := [8]) (by kernel_rfl) (by simp) (AllReadyH.cons (o := { dst := none, op := Op.store 37 (Operand.tmp 8) (Operand.tmp 22), type := 0, pos := "law.go:107", after := #[{ on := 6, ground := Ground.data }, { on := 2, ground := Ground.data }, { on := 5, ground := Ground.chain }, { on := 0, ground := Ground.phase }, { on := 1, ground := Ground.phase }, { on := 2, ground := Ground.phase }, { on := 3, ground := Ground.textOnly Departure.lateStores }, { on := 4, ground := Ground.textOnly Departure.lateStoresUnsure }, { on := 5, ground := Ground.textOnly Departure.lateStoresUnsure }, { on := 6, ground := Ground.phase }, { on := 7, ground := Ground.phase }], guard := none }) rfl (fun K hK => ?_) AllReadyH.nil)
              have hOld := hide hHeld
              clear hHeld
              have HZ6x7 := hide (show (World.setRow v6 v3.heap.size (tagC tk tl s tp tn)).heap[v3.heap.size]? = some (.cells (tagC tk tl s tp tn) 37 (0, 0)) from setRow_heap _ _ _ _ _ _ HZ6x6.out)
              have HZ7x7 := hide ((setRow_other v6 v3.heap.size v5.heap.size (tagC tk tl s tp tn) (by omega)).trans HZ7x6.out)
              have HTx7 := hide (HTx6.out.row v3.heap.size (by omega) (by omega) (by omega) (by omega) (tagC tk tl s tp tn))
              refine wp_store_row 37 (.tmp 8) (.tmp 22) rfl (v3.heap.size) rfl (tagC tk tl s tp tn) rfl (tagC 0 0 0 0 0) HZ6x6.out (tag_size _ _ _ _ _) rfl (tagC_one _ _ _ _ _) ?_
              generalize (World.setRow v6 v3.heap.size (tagC tk tl s tp tn)) = v7 at *
              refine hK.out _ _ (SU.of HTx7.out) (fun hHeld => ?_)
              clear hK K hOld
              try simp only [Act.put, List.setIfInBounds_toArray, List.set_cons_zero, List.set_cons_succ]
              refine wpAnyH_ready (rs := [9]) (by kernel_rfl) (by simp) (AllReadyH.cons (o := { dst := none, op := Op.store 37 (Operand.tmp 9) (Operand.tmp 25), type := 0, pos := "law.go:107", after := #[{ on := 7, ground := Ground.data }, { on := 5, ground := Ground.data }, { on := 8, ground := Ground.chain }, { on := 0, ground := Ground.phase }, { on := 1, ground := Ground.phase }, { on := 2, ground := Ground.phase }, { on := 3, ground := Ground.phase }, { on := 4, ground := Ground.phase }, { on := 5, ground := Ground.phase }, { on := 6, ground := Ground.phase }, { on := 7, ground := Ground.phase }, { on := 8, ground := Ground.phase }], guard := none }) rfl (fun K hK => ?_) AllReadyH.nil)
              have hOld := hide hHeld
              clear hHeld
              have HZ7x8 := hide (show (World.setRow v7 v5.heap.size (tagC tk' tl' s' tp' tn')).heap[v5.heap.size]? = some (.cells (tagC tk' tl' s' tp' tn') 37 (0, 0)) from setRow_heap _ _ _ _ _ _ HZ7x7.out)
              have HZ6x8 := hide ((setRow_other v7 v5.heap.size v3.heap.size (tagC tk' tl' s' tp' tn') (by omega)).trans HZ6x7.out)
              have HTx8 := hide (HTx7.out.row v5.heap.size (by omega) (by omega) (by omega) (by omega) (tagC tk' tl' s' tp' tn'))
              refine wp_store_row 37 (.tmp 9) (.tmp 25) rfl (v5.heap.size) rfl (tagC tk' tl' s' tp' tn') rfl (tagC 0 0 0 0 0) HZ7x7.out (tag_size _ _ _ _ _) rfl (tagC_one _ _ _ _ _) ?_
              generalize (World.setRow v7 v5.heap.size (tagC tk' tl' s' tp' tn')) = v8 at *
              refine hK.out _ _ (SU.of HTx8.out) (fun hHeld => ?_)
              clear hK K hOld
              try simp only [Act.put, List.setIfInBounds_toArray, List.set_cons_zero, List.set_cons_succ]
              refine wpAnyH_done (by kernel_rfl) ?_ _
              go_wp2_with fail
              go_meet
              exact ⟨_, _, rfl, rfl, HZ6x8.out, HZ7x8.out, HTx8.out.tab, HTx8.out.below⟩
            · have hOld := hide hHeld
              clear hHeld
              go_simp
              have HTx5 := hide (HTx4.out.alloc (Obj.cells #[.int .u8 0, .int .i64 0, .int .u64 0, .int .i64 0, .int .i64 0] 37))
              have HZ6x5 := hide ((heap_old _ (Obj.cells #[.int .u8 0, .int .i64 0, .int .u64 0, .int .i64 0, .int .i64 0] 37) _ (heap_lt HZ6x4.out)).trans HZ6x4.out)
              have HZ7x5 := hide (show (World.alloc v4 (Obj.cells #[.int .u8 0, .int .i64 0, .int .u64 0, .int .i64 0, .int .i64 0] 37)).heap[v4.heap.size]? = some (.cells (tagC 0 0 0 0 0) 37 (0, 0)) from heapNew v4 (Obj.cells #[.int .u8 0, .int .i64 0, .int .u64 0, .int .i64 0, .int .i64 0] 37))
              have hn7 : w.heap.size + 1 < v4.heap.size ∧ pb < v4.heap.size := ⟨heap_lt HTx4.out.two, tabAt_lt HTx4.out.tab⟩
              have hzz : v3.heap.size < v4.heap.size := heap_lt HZ6x4.out
              generalize World.alloc v4 (Obj.cells #[.int .u8 0, .int .i64 0, .int .u64 0, .int .i64 0, .int .i64 0] 37) = v5 at *
              (try go_wp2_with fail)
              refine hK.out _ _ (SU.of HTx5.out) (fun hHeld => ?_)
              clear hK K hOld
              try simp only [Act.put, List.setIfInBounds_toArray, List.set_cons_zero, List.set_cons_succ]
              refine wpAnyH_ready (rs := [5]) (by kernel_rfl) (by simp) (AllReadyH.cons (o := { dst := some 25, op := Op.call { callee := Callee.value (Operand.func 10), args := #[Operand.tmp 24], argTypes := #[24] }, type := 37, pos := "law.go:107", after := #[{ on := 4, ground := Ground.data }, { on := 4, ground := Ground.chain }], guard := none }) rfl (fun K hK => ?_) AllReadyH.nil)
              have hOld := hide hHeld
              clear hHeld
              go_simp
              refine (HOF2.out _).mono ?_
              rintro e v6 ⟨rfl, hb⟩
              have HTx6 := hide (HTx5.out.kept hb)
              have HZ6x6 := hide ((hb.block _ (heap_lt HZ6x5.out)).trans HZ6x5.out)
              have HZ7x6 := hide ((hb.block _ (heap_lt HZ7x5.out)).trans HZ7x5.out)
              clear hb
              (try go_wp2_with fail)
              refine hK.out _ _ (SU.of HTx6.out) (fun hHeld => ?_)
              clear hK K hOld
              try simp only [Act.put, List.setIfInBounds_toArray, List.set_cons_zero, List.set_cons_succ]
              refine wpAnyH_ready (rs := [8]) (by kernel_rfl) (by simp) (AllReadyH.cons (o := { dst := none, op := Op.store 37 (Operand.tmp 8) (Operand.tmp 22), type := 0, pos := "law.go:107", after := #[{ on := 6, ground := Ground.data }, { on := 2, ground := Ground.data }, { on := 5, ground := Ground.chain }, { on := 0, ground := Ground.phase }, { on := 1, ground := Ground.phase }, { on := 2, ground := Ground.phase }, { on := 3, ground := Ground.textOnly Departure.lateStores }, { on := 4, ground := Ground.textOnly Departure.lateStoresUnsure }, { on := 5, ground := Ground.textOnly Departure.lateStoresUnsure }, { on := 6, ground := Ground.phase }, { on := 7, ground := Ground.phase }], guard := none }) rfl (fun K hK => ?_) AllReadyH.nil)
              have hOld := hide hHeld
              clear hHeld
              have HZ6x7 := hide (show (World.setRow v6 v3.heap.size (tagC tk tl s tp tn)).heap[v3.heap.size]? = some (.cells (tagC tk tl s tp tn) 37 (0, 0)) from setRow_heap _ _ _ _ _ _ HZ6x6.out)
              have HZ7x7 := hide ((setRow_other v6 v3.heap.size v4.heap.size (tagC tk tl s tp tn) (by omega)).trans HZ7x6.out)
              have HTx7 := hide (HTx6.out.row v3.heap.size (by omega) (by omega) (by omega) (by omega) (tagC tk tl s tp tn))
              refine wp_store_row 37 (.tmp 8) (.tmp 22) rfl (v3.heap.size) rfl (tagC tk tl s tp tn) rfl (tagC 0 0 0 0 0) HZ6x6.out (tag_size _ _ _ _ _) rfl (tagC_one _ _ _ _ _) ?_
              generalize (World.setRow v6 v3.heap.size (tagC tk tl s tp tn)) = v7 at *
              refine hK.out _ _ (SU.of HTx7.out) (fun hHeld => ?_)
              clear hK K hOld
              try simp only [Act.put, List.setIfInBounds_toArray, List.set_cons_zero, List.set_cons_succ]
              refine wpAnyH_ready (rs := [9]) (by kernel_rfl) (by simp) (AllReadyH.cons (o := { dst := none, op := Op.store 37 (Operand.tmp 9) (Operand.tmp 25), type := 0, pos := "law.go:107", after := #[{ on := 7, ground := Ground.data }, { on := 5, ground := Ground.data }, { on := 8, ground := Ground.chain }, { on := 0, ground := Ground.phase }, { on := 1, ground := Ground.phase }, { on := 2, ground := Ground.phase }, { on := 3, ground := Ground.phase }, { on := 4, ground := Ground.phase }, { on := 5, ground := Ground.phase }, { on := 6, ground := Ground.phase }, { on := 7, ground := Ground.phase }, { on := 8, ground := Ground.phase }], guard := none }) rfl (fun K hK => ?_) AllReadyH.nil)
              have hOld := hide hHeld
              clear hHeld
              have HZ7x8 := hide (show (World.setRow v7 v4.heap.size (tagC tk' tl' s' tp' tn')).heap[v4.heap.size]? = some (.cells (tagC tk' tl' s' tp' tn') 37 (0, 0)) from setRow_heap _ _ _ _ _ _ HZ7x7.out)
              have HZ6x8 := hide ((setRow_other v7 v4.heap.size v3.heap.size (tagC tk' tl' s' tp' tn') (by omega)).trans HZ6x7.out)
              have HTx8 := hide (HTx7.out.row v4.heap.size (by omega) (by omega) (by omega) (by omega) (tagC tk' tl' s' tp' tn'))
              refine wp_store_row 37 (.tmp 9) (.tmp 25) rfl (v4.heap.size) rfl (tagC tk' tl' s' tp' tn') rfl (tagC 0 0 0 0 0) HZ7x7.out (tag_size _ _ _ _ _) rfl (tagC_one _ _ _ _ _) ?_
              generalize (World.setRow v7 v4.heap.size (tagC tk' tl' s' tp' tn')) = v8 at *
              refine hK.out _ _ (SU.of HTx8.out) (fun hHeld => ?_)
              clear hK K hOld
              try simp only [Act.put, List.setIfInBounds_toArray, List.set_cons_zero, List.set_cons_succ]
              refine wpAnyH_done (by kernel_rfl) ?_ _
              go_wp2_with fail
              go_meet
              exact ⟨_, _, rfl, rfl, HZ6x8.out, HZ7x8.out, HTx8.out.tab, HTx8.out.below⟩
          · have hOld := hide hHeld
            clear hHeld
            go_simp
            have HTx4 := hide (HTx3.out.alloc (Obj.cells #[.int .u8 0, .int .i64 0, .int .u64 0, .int .i64 0, .int .i64 0] 37))
            have HZ7x4 := hide (show (World.alloc v3 (Obj.cells #[.int .u8 0, .int .i64 0, .int .u64 0, .int .i64 0, .int .i64 0] 37)).heap[v3.heap.size]? = some (.cells (tagC 0 0 0 0 0) 37 (0, 0)) from heapNew v3 (Obj.cells #[.int .u8 0, .int .i64 0, .int .u64 0, .int .i64 0, .int .i64 0] 37))
            have hn7 : w.heap.size + 1 < v3.heap.size ∧ pb < v3.heap.size := ⟨heap_lt HTx3.out.two, tabAt_lt HTx3.out.tab⟩
            generalize World.alloc v3 (Obj.cells #[.int .u8 0, .int .i64 0, .int .u64 0, .int .i64 0, .int .i64 0] 37) = v4 at *
            (try go_wp2_with fail)
            refine hK.out _ _ (SU.of HTx4.out) (fun hHeld => ?_)
            clear hK K hOld
            try simp only [Act.put, List.setIfInBounds_toArray, List.set_cons_zero, List.set_cons_succ]
            refine wpAnyH_ready (rs := [5, 6]) (by kernel_rfl) (by simp) (AllReadyH.cons (o := { dst := some 25, op := Op.call { callee := Callee.value (Operand.func 10), args := #[Operand.tmp 24], argTypes := #[24] }, type := 37, pos := "law.go:107", after := #[{ on := 4, ground := Ground.data }, { on := 4, ground := Ground.chain }], guard := none }) rfl (fun K hK => ?_) (AllReadyH.cons (o := { dst := some 8, op := Op.alloc 37, type := 0, pos := "law.go:107", after := #[], guard := none }) rfl (fun K hK => ?_) AllReadyH.nil))
            · have hOld := hide hHeld
              clear hHeld
              go_simp
              refine (HOF2.out _).mono ?_
              rintro e v5 ⟨rfl, hb⟩
              have HTx5 := hide (HTx4.out.kept hb)
              have HZ7x5 := hide ((hb.block _ (heap_lt HZ7x4.out)).trans HZ7x4.out)
              clear hb
              (try go_wp2_with fail)
              refine hK.out _ _ (SU.of HTx5.out) (fun hHeld => ?_)
              clear hK K hOld
              try simp only [Act.put, List.setIfInBounds_toArray, List.set_cons_zero, List.set_cons_succ]
              refine wpAnyH_ready (rs := [6]) (by kernel_rfl) (by simp) (AllReadyH.cons (o := { dst := some 8, op := Op.alloc 37, type := 0, pos := "law.go:107", after := #[], guard := none }) rfl (fun K hK => ?_) AllReadyH.nil)
              have hOld := hide hHeld
              clear hHeld
              go_simp
              have HTx6 := hide (HTx5.out.alloc (Obj.cells #[.int .u8 0, .int .i64 0, .int .u64 0, .int .i64 0, .int .i64 0] 37))
              have HZ7x6 := hide ((heap_old _ (Obj.cells #[.int .u8 0, .int .i64 0, .int .u64 0, .int .i64 0, .int .i64 0] 37) _ (heap_lt HZ7x5.out)).trans HZ7x5.out)
              have HZ6x6 := hide (show (World.alloc v5 (Obj.cells #[.int .u8 0, .int .i64 0, .int .u64 0, .int .i64 0, .int .i64 0] 37)).heap[v5.heap.size]? = some (.cells (tagC 0 0 0 0 0) 37 (0, 0)) from heapNew v5 (Obj.cells #[.int .u8 0, .int .i64 0, .int .u64 0, .int .i64 0, .int .i64 0] 37))
              have hn6 : w.heap.size + 1 < v5.heap.size ∧ pb < v5.heap.size := ⟨heap_lt HTx5.out.two, tabAt_lt HTx5.out.tab⟩
              have hzz : v3.heap.size < v5.heap.size := heap_lt HZ7x5.out
              generalize World.alloc v5 (Obj.cells #[.int .u8 0, .int .i64 0, .int .u64 0, .int .i64 0, .int .i64 0] 37) = v6 at *
              (try go_wp2_with fail)
              refine hK.out _ _ (SU.of HTx6.out) (fun hHeld => ?_)
              clear hK K hOld
              try simp only [Act.put, List.setIfInBounds_toArray, List.set_cons_zero, List.set_cons_succ]
              refine wpAnyH_ready (rs := [8]) (by kernel_rfl) (by simp) (AllReadyH.cons (o := { dst := none, op := Op.store 37 (Operand.tmp 8) (Operand.tmp 22), type := 0, pos := "law.go:107", after := #[{ on := 6, ground := Ground.data }, { on := 2, ground := Ground.data }, { on := 5, ground := Ground.chain }, { on := 0, ground := Ground.phase }, { on := 1, ground := Ground.phase }, { on := 2, ground := Ground.phase }, { on := 3, ground := Ground.textOnly Departure.lateStores }, { on := 4, ground := Ground.textOnly Departure.lateStoresUnsure }, { on := 5, ground := Ground.textOnly Departure.lateStoresUnsure }, { on := 6, ground := Ground.phase }, { on := 7, ground := Ground.phase }], guard := none }) rfl (fun K hK => ?_) AllReadyH.nil)
              have hOld := hide hHeld
              clear hHeld
              have HZ6x7 := hide (show (World.setRow v6 v5.heap.size (tagC tk tl s tp tn)).heap[v5.heap.size]? = some (.cells (tagC tk tl s tp tn) 37 (0, 0)) from setRow_heap _ _ _ _ _ _ HZ6x6.out)
              have HZ7x7 := hide ((setRow_other v6 v5.heap.size v3.heap.size (tagC tk tl s tp tn) (by omega)).trans HZ7x6.out)
              have HTx7 := hide (HTx6.out.row v5.heap.size (by omega) (by omega) (by omega) (by omega) (tagC tk tl s tp tn))
              refine wp_store_row 37 (.tmp 8) (.tmp 22) rfl (v5.heap.size) rfl (tagC tk tl s tp tn) rfl (tagC 0 0 0 0 0) HZ6x6.out (tag_size _ _ _ _ _) rfl (tagC_one _ _ _ _ _) ?_
              generalize (World.setRow v6 v5.heap.size (tagC tk tl s tp tn)) = v7 at *
              refine hK.out _ _ (SU.of HTx7.out) (fun hHeld => ?_)
              clear hK K hOld
              try simp only [Act.put, List.setIfInBounds_toArray, List.set_cons_zero, List.set_cons_succ]
              refine wpAnyH_ready (rs := [9]) (by kernel_rfl) (by simp) (AllReadyH.cons (o := { dst := none, op := Op.store 37 (Operand.tmp 9) (Operand.tmp 25), type := 0, pos := "law.go:107", after := #[{ on := 7, ground := Ground.data }, { on := 5, ground := Ground.data }, { on := 8, ground := Ground.chain }, { on := 0, ground := Ground.phase }, { on := 1, ground := Ground.phase }, { on := 2, ground := Ground.phase }, { on := 3, ground := Ground.phase }, { on := 4, ground := Ground.phase }, { on := 5, ground := Ground.phase }, { on := 6, ground := Ground.phase }, { on := 7, ground := Ground.phase }, { on := 8, ground := Ground.phase }], guard := none }) rfl (fun K hK => ?_) AllReadyH.nil)
              have hOld := hide hHeld
              clear hHeld
              have HZ7x8 := hide (show (World.setRow v7 v3.heap.size (tagC tk' tl' s' tp' tn')).heap[v3.heap.size]? = some (.cells (tagC tk' tl' s' tp' tn') 37 (0, 0)) from setRow_heap _ _ _ _ _ _ HZ7x7.out)
              have HZ6x8 := hide ((setRow_other v7 v3.heap.size v5.heap.size (tagC tk' tl' s' tp' tn') (by omega)).trans HZ6x7.out)
              have HTx8 := hide (HTx7.out.row v3.heap.size (by omega) (by omega) (by omega) (by omega) (tagC tk' tl' s' tp' tn'))
              refine wp_store_row 37 (.tmp 9) (.tmp 25) rfl (v3.heap.size) rfl (tagC tk' tl' s' tp' tn') rfl (tagC 0 0 0 0 0) HZ7x7.out (tag_size _ _ _ _ _) rfl (tagC_one _ _ _ _ _) ?_
              generalize (World.setRow v7 v3.heap.size (tagC tk' tl' s' tp' tn')) = v8 at *
              refine hK.out _ _ (SU.of HTx8.out) (fun hHeld => ?_)
              clear hK K hOld
              try simp only [Act.put, List.setIfInBounds_toArray, List.set_cons_zero, List.set_cons_succ]
              refine wpAnyH_done (by kernel_rfl) ?_ _
              go_wp2_with fail
              go_meet
              exact ⟨_, _, rfl, rfl, HZ6x8.out, HZ7x8.out, HTx8.out.tab, HTx8.out.below⟩
            · have hOld := hide hHeld
              clear hHeld
              go_simp
              have HTx5 := hide (HTx4.out.alloc (Obj.cells #[.int .u8 0, .int .i64 0, .int .u64 0, .int .i64 0, .int .i64 0] 37))
              have HZ7x5 := hide ((heap_old _ (Obj.cells #[.int .u8 0, .int .i64 0, .int .u64 0, .int .i64 0, .int .i64 0] 37) _ (heap_lt HZ7x4.out)).trans HZ7x4.out)
              have HZ6x5 := hide (show (World.alloc v4 (Obj.cells #[.int .u8 0, .int .i64 0, .int .u64 0, .int .i64 0, .int .i64 0] 37)).heap[v4.heap.size]? = some (.cells (tagC 0 0 0 0 0) 37 (0, 0)) from heapNew v4 (Obj.cells #[.int .u8 0, .int .i64 0, .int .u64 0, .int .i64 0, .int .i64 0] 37))
              have hn6 : w.heap.size + 1 < v4.heap.size ∧ pb < v4.heap.size := ⟨heap_lt HTx4.out.two, tabAt_lt HTx4.out.tab⟩
              have hzz : v3.heap.size < v4.heap.size := heap_lt HZ7x4.out
              generalize World.alloc v4 (Obj.cells #[.int .u8 0, .int .i64 0, .int .u64 0, .int .i64 0, .int .i64 0] 37) = v5 at *
              (try go_wp2_with fail)
              refine hK.out _ _ (SU.of HTx5.out) (fun hHeld => ?_)
              clear hK K hOld
              try simp only [Act.put, List.setIfInBounds_toArray, List.set_cons_zero, List.set_cons_succ]
              refine wpAnyH_ready (rs := [5]) (by kernel_rfl) (by simp) (AllReadyH.cons (o := { dst := some 25, op := Op.call { callee := Callee.value (Operand.func 10), args := #[Operand.tmp 24], argTypes := #[24] }, type := 37, pos := "law.go:107", after := #[{ on := 4, ground := Ground.data }, { on := 4, ground := Ground.chain }], guard := none }) rfl (fun K hK => ?_) AllReadyH.nil)
              have hOld := hide hHeld
              clear hHeld
              go_simp
              refine (HOF2.out _).mono ?_
              rintro e v6 ⟨rfl, hb⟩
              have HTx6 := hide (HTx5.out.kept hb)
              have HZ6x6 := hide ((hb.block _ (heap_lt HZ6x5.out)).trans HZ6x5.out)
              have HZ7x6 := hide ((hb.block _ (heap_lt HZ7x5.out)).trans HZ7x5.out)
              clear hb
              (try go_wp2_with fail)
              refine hK.out _ _ (SU.of HTx6.out) (fun hHeld => ?_)
              clear hK K hOld
              try simp only [Act.put, List.setIfInBounds_toArray, List.set_cons_zero, List.set_cons_succ]
              refine wpAnyH_ready (rs := [8]) (by kernel_rfl) (by simp) (AllReadyH.cons (o := { dst := none, op := Op.store 37 (Operand.tmp 8) (Operand.tmp 22), type := 0, pos := "law.go:107", after := #[{ on := 6, ground := Ground.data }, { on := 2, ground := Ground.data }, { on := 5, ground := Ground.chain }, { on := 0, ground := Ground.phase }, { on := 1, ground := Ground.phase }, { on := 2, ground := Ground.phase }, { on := 3, ground := Ground.textOnly Departure.lateStores }, { on := 4, ground := Ground.textOnly Departure.lateStoresUnsure }, { on := 5, ground := Ground.textOnly Departure.lateStoresUnsure }, { on := 6, ground := Ground.phase }, { on := 7, ground := Ground.phase }], guard := none }) rfl (fun K hK => ?_) AllReadyH.nil)
              have hOld := hide hHeld
              clear hHeld
              have HZ6x7 := hide (show (World.setRow v6 v4.heap.size (tagC tk tl s tp tn)).heap[v4.heap.size]? = some (.cells (tagC tk tl s tp tn) 37 (0, 0)) from setRow_heap _ _ _ _ _ _ HZ6x6.out)
              have HZ7x7 := hide ((setRow_other v6 v4.heap.size v3.heap.size (tagC tk tl s tp tn) (by omega)).trans HZ7x6.out)
              have HTx7 := hide (HTx6.out.row v4.heap.size (by omega) (by omega) (by omega) (by omega) (tagC tk tl s tp tn))
              refine wp_store_row 37 (.tmp 8) (.tmp 22) rfl (v4.heap.size) rfl (tagC tk tl s tp tn) rfl (tagC 0 0 0 0 0) HZ6x6.out (tag_size _ _ _ _ _) rfl (tagC_one _ _ _ _ _) ?_
              generalize (World.setRow v6 v4.heap.size (tagC tk tl s tp tn)) = v7 at *
              refine hK.out _ _ (SU.of HTx7.out) (fun hHeld => ?_)
              clear hK K hOld
              try simp only [Act.put, List.setIfInBounds_toArray, List.set_cons_zero, List.set_cons_succ]
              refine wpAnyH_ready (rs := [9]) (by kernel_rfl) (by simp) (AllReadyH.cons (o := { dst := none, op := Op.store 37 (Operand.tmp 9) (Operand.tmp 25), type := 0, pos := "law.go:107", after := #[{ on := 7, ground := Ground.data }, { on := 5, ground := Ground.data }, { on := 8, ground := Ground.chain }, { on := 0, ground := Ground.phase }, { on := 1, ground := Ground.phase }, { on := 2, ground := Ground.phase }, { on := 3, ground := Ground.phase }, { on := 4, ground := Ground.phase }, { on := 5, ground := Ground.phase }, { on := 6, ground := Ground.phase }, { on := 7, ground := Ground.phase }, { on := 8, ground := Ground.phase }], guard := none }) rfl (fun K hK => ?_) AllReadyH.nil)
              have hOld := hide hHeld
              clear hHeld
              have HZ7x8 := hide (show (World.setRow v7 v3.heap.size (tagC tk' tl' s' tp' tn')).heap[v3.heap.size]? = some (.cells (tagC tk' tl' s' tp' tn') 37 (0, 0)) from setRow_heap _ _ _ _ _ _ HZ7x7.out)
              have HZ6x8 := hide ((setRow_other v7 v3.heap.size v4.heap.size (tagC tk' tl' s' tp' tn') (by omega)).trans HZ6x7.out)
              have HTx8 := hide (HTx7.out.row v3.heap.size (by omega) (by omega) (by omega) (by omega) (tagC tk' tl' s' tp' tn'))
              refine wp_store_row 37 (.tmp 9) (.tmp 25) rfl (v3.heap.size) rfl (tagC tk' tl' s' tp' tn') rfl (tagC 0 0 0 0 0) HZ7x7.out (tag_size _ _ _ _ _) rfl (tagC_one _ _ _ _ _) ?_
              generalize (World.setRow v7 v3.heap.size (tagC tk' tl' s' tp' tn')) = v8 at *
              refine hK.out _ _ (SU.of HTx8.out) (fun hHeld => ?_)
              clear hK K hOld
              try simp only [Act.put, List.setIfInBounds_toArray, List.set_cons_zero, List.set_cons_succ]
              refine wpAnyH_done (by kernel_rfl) ?_ _
              go_wp2_with fail
              go_meet
              exact ⟨_, _, rfl, rfl, HZ6x8.out, HZ7x8.out, HTx8.out.tab, HTx8.out.below⟩
        · have hOld := hide hHeld
          clear hHeld
          go_simp
          have HTx3 := hide (HTx2.out.alloc (Obj.cells #[.int .u8 0, .int .i64 0, .int .u64 0, .int .i64 0, .int .i64 0] 37))
          have HZ6x3 := hide (show (World.alloc v2 (Obj.cells #[.int .u8 0, .int .i64 0, .int .u64 0, .int .i64 0, .int .i64 0] 37)).heap[v2.heap.size]? = some (.cells (tagC 0 0 0 0 0) 37 (0, 0)) from heapNew v2 (Obj.cells #[.int .u8 0, .int .i64 0, .int .u64 0, .int .i64 0, .int .i64 0] 37))
          have hn6 : w.heap.size + 1 < v2.heap.size ∧ pb < v2.heap.size := ⟨heap_lt HTx2.out.two, tabAt_lt HTx2.out.tab⟩
          generalize World.alloc v2 (Obj.cells #[.int .u8 0, .int .i64 0, .int .u64 0, .int .i64 0, .int .i64 0] 37) = v3 at *
          (try go_wp2_with fail)
          refine hK.out _ _ (SU.of HTx3.out) (fun hHeld => ?_)
          clear hK K hOld
          try simp only [Act.put, List.setIfInBounds_toArray, List.set_cons_zero, List.set_cons_succ]
          refine wpAnyH_ready (rs := [4, 7]) (by kernel_rfl) (by simp) (AllReadyH.cons (o := { dst := some 24, op := Op.call { callee := Callee.value (Operand.func 8), args := #[Operand.tmp 23], argTypes := #[24] }, type := 24, pos := "law.go:107", after := #[{ on := 3, ground := Ground.data }, { on := 2, ground := Ground.chain }], guard := none }) rfl (fun K hK => ?_) (AllReadyH.cons (o := { dst := some 9, op := Op.alloc 37, type := 0, pos := "law.go:107", after := #[], guard := none }) rfl (fun K hK => ?_) AllReadyH.nil))
          · have hOld := hide hHeld
            clear hHeld
            go_simp
            refine (HTA2.out _).mono ?_
            rintro e v4 ⟨rfl, hb⟩
            have HTx4 := hide (HTx3.out.kept hb)
            have HZ6x4 := hide ((hb.block _ (heap_lt HZ6x3.out)).trans HZ6x3.out)
            clear hb
            (try go_wp2_with fail)
            refine hK.out _ _ (SU.of HTx4.out) (fun hHeld => ?_)
            clear hK K hOld
            try simp only [Act.put, List.setIfInBounds_toArray, List.set_cons_zero, List.set_cons_succ]
            refine wpAnyH_ready (rs := [5, 7]) (by kernel_rfl) (by simp) (AllReadyH.cons (o := { dst := some 25, op := Op.call { callee := Callee.value (Operand.func 10), args := #[Operand.tmp 24], argTypes := #[24] }, type := 37, pos := "law.go:107", after := #[{ on := 4, ground := Ground.data }, { on := 4, ground := Ground.chain }], guard := none }) rfl (fun K hK => ?_) (AllReadyH.cons (o := { dst := some 9, op := Op.alloc 37, type := 0, pos := "law.go:107", after := #[], guard := none }) rfl (fun K hK => ?_) AllReadyH.nil))
            · have hOld := hide hHeld
              clear hHeld
              go_simp
              refine (HOF2.out _).mono ?_
              rintro e v5 ⟨rfl, hb⟩
              have HTx5 := hide (HTx4.out.kept hb)
              have HZ6x5 := hide ((hb.block _ (heap_lt HZ6x4.out)).trans HZ6x4.out)
              clear hb
              (try go_wp2_with fail)
              refine hK.out _ _ (SU.of HTx5.out) (fun hHeld => ?_)
              clear hK K hOld
              try simp only [Act.put, List.setIfInBounds_toArray, List.set_cons_zero, List.set_cons_succ]
              refine wpAnyH_ready (rs := [7]) (by kernel_rfl) (by simp) (AllReadyH.cons (o := { dst := some 9, op := Op.alloc 37, type := 0, pos := "law.go:107", after := #[], guard := none }) rfl (fun K hK => ?_) AllReadyH.nil)
              have hOld := hide hHeld
              clear hHeld
              go_simp
              have HTx6 := hide (HTx5.out.alloc (Obj.cells #[.int .u8 0, .int .i64 0, .int .u64 0, .int .i64 0, .int .i64 0] 37))
              have HZ6x6 := hide ((heap_old _ (Obj.cells #[.int .u8 0, .int .i64 0, .int .u64 0, .int .i64 0, .int .i64 0] 37) _ (heap_lt HZ6x5.out)).trans HZ6x5.out)
              have HZ7x6 := hide (show (World.alloc v5 (Obj.cells #[.int .u8 0, .int .i64 0, .int .u64 0, .int .i64 0, .int .i64 0] 37)).heap[v5.heap.size]? = some (.cells (tagC 0 0 0 0 0) 37 (0, 0)) from heapNew v5 (Obj.cells #[.int .u8 0, .int .i64 0, .int .u64 0, .int .i64 0, .int .i64 0] 37))
              have hn7 : w.heap.size + 1 < v5.heap.size ∧ pb < v5.heap.size := ⟨heap_lt HTx5.out.two, tabAt_lt HTx5.out.tab⟩
              have hzz : v2.heap.size < v5.heap.size := heap_lt HZ6x5.out
              generalize World.alloc v5 (Obj.cells #[.int .u8 0, .int .i64 0, .int .u64 0, .int .i64 0, .int .i64 0] 37) = v6 at *
              (try go_wp2_with fail)
              refine hK.out _ _ (SU.of HTx6.out) (fun hHeld => ?_)
              clear hK K hOld
              try simp only [Act.put, List.setIfInBounds_toArray, List.set_cons_zero, List.set_cons_succ]
              refine wpAnyH_ready (rs := [8]) (by kernel_rfl) (by simp) (AllReadyH.cons (o := { dst := none, op := Op.store 37 (Operand.tmp 8) (Operand.tmp 22), type := 0, pos := "law.go:107", after := #[{ on := 6, ground := Ground.data }, { on := 2, ground := Ground.data }, { on := 5, ground := Ground.chain }, { on := 0, ground := Ground.phase }, { on := 1, ground := Ground.phase }, { on := 2, ground := Ground.phase }, { on := 3, ground := Ground.textOnly Departure.lateStores }, { on := 4, ground := Ground.textOnly Departure.lateStoresUnsure }, { on := 5, ground := Ground.textOnly Departure.lateStoresUnsure }, { on := 6, ground := Ground.phase }, { on := 7, ground := Ground.phase }], guard := none }) rfl (fun K hK => ?_) AllReadyH.nil)
              have hOld := hide hHeld
              clear hHeld
              have HZ6x7 := hide (show (World.setRow v6 v2.heap.size (tagC tk tl s tp tn)).heap[v2.heap.size]? = some (.cells (tagC tk tl s tp tn) 37 (0, 0)) from setRow_heap _ _ _ _ _ _ HZ6x6.out)
              have HZ7x7 := hide ((setRow_other v6 v2.heap.size v5.heap.size (tagC tk tl s tp tn) (by omega)).trans HZ7x6.out)
              have HTx7 := hide (HTx6.out.row v2.heap.size (by omega) (by omega) (by omega) (by omega) (tagC tk tl s tp tn))
              refine wp_store_row 37 (.tmp 8) (.tmp 22) rfl (v2.heap.size) rfl (tagC tk tl s tp tn) rfl (tagC 0 0 0 0 0) HZ6x6.out (tag_size _ _ _ _ _) rfl (tagC_one _ _ _ _ _) ?_
              generalize (World.setRow v6 v2.heap.size (tagC tk tl s tp tn)) = v7 at *
              refine hK.out _ _ (SU.of HTx7.out) (fun hHeld => ?_)
              clear hK K hOld
              try simp only [Act.put, List.setIfInBounds_toArray, List.set_cons_zero, List.set_cons_succ]
              refine wpAnyH_ready (rs := [9]) (by kernel_rfl) (by simp) (AllReadyH.cons (o := { dst := none, op := Op.store 37 (Operand.tmp 9) (Operand.tmp 25), type := 0, pos := "law.go:107", after := #[{ on := 7, ground := Ground.data }, { on := 5, ground := Ground.data }, { on := 8, ground := Ground.chain }, { on := 0, ground := Ground.phase }, { on := 1, ground := Ground.phase }, { on := 2, ground := Ground.phase }, { on := 3, ground := Ground.phase }, { on := 4, ground := Ground.phase }, { on := 5, ground := Ground.phase }, { on := 6, ground := Ground.phase }, { on := 7, ground := Ground.phase }, { on := 8, ground := Ground.phase }], guard := none }) rfl (fun K hK => ?_) AllReadyH.nil)
              have hOld := hide hHeld
              clear hHeld
              have HZ7x8 := hide (show (World.setRow v7 v5.heap.size (tagC tk' tl' s' tp' tn')).heap[v5.heap.size]? = some (.cells (tagC tk' tl' s' tp' tn') 37 (0, 0)) from setRow_heap _ _ _ _ _ _ HZ7x7.out)
              have HZ6x8 := hide ((setRow_other v7 v5.heap.size v2.heap.size (tagC tk' tl' s' tp' tn') (by omega)).trans HZ6x7.out)
              have HTx8 := hide (HTx7.out.row v5.heap.size (by omega) (by omega) (by omega) (by omega) (tagC tk' tl' s' tp' tn'))
              refine wp_store_row 37 (.tmp 9) (.tmp 25) rfl (v5.heap.size) rfl (tagC tk' tl' s' tp' tn') rfl (tagC 0 0 0 0 0) HZ7x7.out (tag_size _ _ _ _ _) rfl (tagC_one _ _ _ _ _) ?_
              generalize (World.setRow v7 v5.heap.size (tagC tk' tl' s' tp' tn')) = v8 at *
              refine hK.out _ _ (SU.of HTx8.out) (fun hHeld => ?_)
              clear hK K hOld
              try simp only [Act.put, List.setIfInBounds_toArray, List.set_cons_zero, List.set_cons_succ]
              refine wpAnyH_done (by kernel_rfl) ?_ _
              go_wp2_with fail
              go_meet
              exact ⟨_, _, rfl, rfl, HZ6x8.out, HZ7x8.out, HTx8.out.tab, HTx8.out.below⟩
            · have hOld := hide hHeld
              clear hHeld
              go_simp
              have HTx5 := hide (HTx4.out.alloc (Obj.cells #[.int .u8 0, .int .i64 0, .int .u64 0, .int .i64 0, .int .i64 0] 37))
              have HZ6x5 := hide ((heap_old _ (Obj.cells #[.int .u8 0, .int .i64 0, .int .u64 0, .int .i64 0, .int .i64 0] 37) _ (heap_lt HZ6x4.out)).trans HZ6x4.out)
              have HZ7x5 := hide (show (World.alloc v4 (Obj.cells #[.int .u8 0, .int .i64 0, .int .u64 0, .int .i64 0, .int .i64 0] 37)).heap[v4.heap.size]? = some (.cells (tagC 0 0 0 0 0) 37 (0, 0)) from heapNew v4 (Obj.cells #[.int .u8 0, .int .i64 0, .int .u64 0, .int .i64 0, .int .i64 0] 37))
              have hn7 : w.heap.size + 1 < v4.heap.size ∧ pb < v4.heap.size := ⟨heap_lt HTx4.out.two, tabAt_lt HTx4.out.tab⟩
              have hzz : v2.heap.size < v4.heap.size := heap_lt HZ6x4.out
              generalize World.alloc v4 (Obj.cells #[.int .u8 0, .int .i64 0, .int .u64 0, .int .i64 0, .int .i64 0] 37) = v5 at *
              (try go_wp2_with fail)
              refine hK.out _ _ (SU.of HTx5.out) (fun hHeld => ?_)
              clear hK K hOld
              try simp only [Act.put, List.setIfInBounds_toArray, List.set_cons_zero, List.set_cons_succ]
              refine wpAnyH_ready (rs := [5]) (by kernel_rfl) (by simp) (AllReadyH.cons (o := { dst := some 25, op := Op.call { callee := Callee.value (Operand.func 10), args := #[Operand.tmp 24], argTypes := #[24] }, type := 37, pos := "law.go:107", after := #[{ on := 4, ground := Ground.data }, { on := 4, ground := Ground.chain }], guard := none }) rfl (fun K hK => ?_) AllReadyH.nil)
              have hOld := hide hHeld
              clear hHeld
              go_simp
              refine (HOF2.out _).mono ?_
              rintro e v6 ⟨rfl, hb⟩
              have HTx6 := hide (HTx5.out.kept hb)
              have HZ6x6 := hide ((hb.block _ (heap_lt HZ6x5.out)).trans HZ6x5.out)
              have HZ7x6 := hide ((hb.block _ (heap_lt HZ7x5.out)).trans HZ7x5.out)
              clear hb
              (try go_wp2_with fail)
              refine hK.out _ _ (SU.of HTx6.out) (fun hHeld => ?_)
              clear hK K hOld
              try simp only [Act.put, List.setIfInBounds_toArray, List.set_cons_zero, List.set_cons_succ]
              refine wpAnyH_ready (rs := [8]) (by kernel_rfl) (by simp) (AllReadyH.cons (o := { dst := none, op := Op.store 37 (Operand.tmp 8) (Operand.tmp 22), type := 0, pos := "law.go:107", after := #[{ on := 6, ground := Ground.data }, { on := 2, ground := Ground.data }, { on := 5, ground := Ground.chain }, { on := 0, ground := Ground.phase }, { on := 1, ground := Ground.phase }, { on := 2, ground := Ground.phase }, { on := 3, ground := Ground.textOnly Departure.lateStores }, { on := 4, ground := Ground.textOnly Departure.lateStoresUnsure }, { on := 5, ground := Ground.textOnly Departure.lateStoresUnsure }, { on := 6, ground := Ground.phase }, { on := 7, ground := Ground.phase }], guard := none }) rfl (fun K hK => ?_) AllReadyH.nil)
              have hOld := hide hHeld
              clear hHeld
              have HZ6x7 := hide (show (World.setRow v6 v2.heap.size (tagC tk tl s tp tn)).heap[v2.heap.size]? = some (.cells (tagC tk tl s tp tn) 37 (0, 0)) from setRow_heap _ _ _ _ _ _ HZ6x6.out)
              have HZ7x7 := hide ((setRow_other v6 v2.heap.size v4.heap.size (tagC tk tl s tp tn) (by omega)).trans HZ7x6.out)
              have HTx7 := hide (HTx6.out.row v2.heap.size (by omega) (by omega) (by omega) (by omega) (tagC tk tl s tp tn))
              refine wp_store_row 37 (.tmp 8) (.tmp 22) rfl (v2.heap.size) rfl (tagC tk tl s tp tn) rfl (tagC 0 0 0 0 0) HZ6x6.out (tag_size _ _ _ _ _) rfl (tagC_one _ _ _ _ _) ?_
              generalize (World.setRow v6 v2.heap.size (tagC tk tl s tp tn)) = v7 at *
              refine hK.out _ _ (SU.of HTx7.out) (fun hHeld => ?_)
              clear hK K hOld
              try simp only [Act.put, List.setIfInBounds_toArray, List.set_cons_zero, List.set_cons_succ]
              refine wpAnyH_ready (rs := [9]) (by kernel_rfl) (by simp) (AllReadyH.cons (o := { dst := none, op := Op.store 37 (Operand.tmp 9) (Operand.tmp 25), type := 0, pos := "law.go:107", after := #[{ on := 7, ground := Ground.data }, { on := 5, ground := Ground.data }, { on := 8, ground := Ground.chain }, { on := 0, ground := Ground.phase }, { on := 1, ground := Ground.phase }, { on := 2, ground := Ground.phase }, { on := 3, ground := Ground.phase }, { on := 4, ground := Ground.phase }, { on := 5, ground := Ground.phase }, { on := 6, ground := Ground.phase }, { on := 7, ground := Ground.phase }, { on := 8, ground := Ground.phase }], guard := none }) rfl (fun K hK => ?_) AllReadyH.nil)
              have hOld := hide hHeld
              clear hHeld
              have HZ7x8 := hide (show (World.setRow v7 v4.heap.size (tagC tk' tl' s' tp' tn')).heap[v4.heap.size]? = some (.cells (tagC tk' tl' s' tp' tn') 37 (0, 0)) from setRow_heap _ _ _ _ _ _ HZ7x7.out)
              have HZ6x8 := hide ((setRow_other v7 v4.heap.size v2.heap.size (tagC tk' tl' s' tp' tn') (by omega)).trans HZ6x7.out)
              have HTx8 := hide (HTx7.out.row v4.heap.size (by omega) (by omega) (by omega) (by omega) (tagC tk' tl' s' tp' tn'))
              refine wp_store_row 37 (.tmp 9) (.tmp 25) rfl (v4.heap.size) rfl (tagC tk' tl' s' tp' tn') rfl (tagC 0 0 0 0 0) HZ7x7.out (tag_size _ _ _ _ _) rfl (tagC_one _ _ _ _ _) ?_
              generalize (World.setRow v7 v4.heap.size (tagC tk' tl' s' tp' tn')) = v8 at *
              refine hK.out _ _ (SU.of HTx8.out) (fun hHeld => ?_)
              clear hK K hOld
              try simp only [Act.put, List.setIfInBounds_toArray, List.set_cons_zero, List.set_cons_succ]
              refine wpAnyH_done (by kernel_rfl) ?_ _
              go_wp2_with fail
              go_meet
              exact ⟨_, _, rfl, rfl, HZ6x8.out, HZ7x8.out, HTx8.out.tab, HTx8.out.below⟩
          · have hOld := hide hHeld
            clear hHeld
            go_simp
            have HTx4 := hide (HTx3.out.alloc (Obj.cells #[.int .u8 0, .int .i64 0, .int .u64 0, .int .i64 0, .int .i64 0] 37))
            have HZ6x4 := hide ((heap_old _ (Obj.cells #[.int .u8 0, .int .i64 0, .int .u64 0, .int .i64 0, .int .i64 0] 37) _ (heap_lt HZ6x3.out)).trans HZ6x3.out)
            have HZ7x4 := hide (show (World.alloc v3 (Obj.cells #[.int .u8 0, .int .i64 0, .int .u64 0, .int .i64 0, .int .i64 0] 37)).heap[v3.heap.size]? = some (.cells (tagC 0 0 0 0 0) 37 (0, 0)) from heapNew v3 (Obj.cells #[.int .u8 0, .int .i64 0, .int .u64 0, .int .i64 0, .int .i64 0] 37))
            have hn7 : w.heap.size + 1 < v3.heap.size ∧ pb < v3.heap.size := ⟨heap_lt HTx3.out.two, tabAt_lt HTx3.out.tab⟩
            have hzz : v2.heap.size < v3.heap.size := heap_lt HZ6x3.out
            generalize World.alloc v3 (Obj.cells #[.int .u8 0, .int .i64 0, .int .u64 0, .int .i64 0, .int .i64 0] 37) = v4 at *
            (try go_wp2_with fail)
            refine hK.out _ _ (SU.of HTx4.out) (fun hHeld => ?_)
            clear hK K hOld
            try simp only [Act.put, List.setIfInBounds_toArray, List.set_cons_zero, List.set_cons_succ]
            refine wpAnyH_ready (rs := [4]) (by kernel_rfl) (by simp) (AllReadyH.cons (o := { dst := some 24, op := Op.call { callee := Callee.value (Operand.func 8), args := #[Operand.tmp 23], argTypes := #[24] }, type := 24, pos := "law.go:107", after := #[{ on := 3, ground := Ground.data }, { on := 2, ground := Ground.chain }], guard := none }) rfl (fun K hK => ?_) AllReadyH.nil)
            have hOld := hide hHeld
            clear hHeld
            go_simp
            refine (HTA2.out _).mono ?_
            rintro e v5 ⟨rfl, hb⟩
            have HTx5 := hide (HTx4.out.kept hb)
            have HZ6x5 := hide ((hb.block _ (heap_lt HZ6x4.out)).trans HZ6x4.out)
            have HZ7x5 := hide ((hb.block _ (heap_lt HZ7x4.out)).trans HZ7x4.out)
            clear hb
            (try go_wp2_with fail)
            refine hK.out _ _ (SU.of HTx5.out) (fun hHeld => ?_)
            clear hK K hOld
            try simp only [Act.put, List.setIfInBounds_toArray, List.set_cons_zero, List.set_cons_succ]
            refine wpAnyH_ready (rs := [5]) (by kernel_rfl) (by simp) (AllReadyH.cons (o := { dst := some 25, op := Op.call { callee := Callee.value (Operand.func 10), args := #[Operand.tmp 24], argTypes := #[24] }, type := 37, pos := "law.go:107", after := #[{ on := 4, ground := Ground.data }, { on := 4, ground := Ground.chain }], guard := none }) rfl (fun K hK => ?_) AllReadyH.nil)
            have hOld := hide hHeld
            clear hHeld
            go_simp
            refine (HOF2.out _).mono ?_
            rintro e v6 ⟨rfl, hb⟩
            have HTx6 := hide (HTx5.out.kept hb)
            have HZ6x6 := hide ((hb.block _ (heap_lt HZ6x5.out)).trans HZ6x5.out)
            have HZ7x6 := hide ((hb.block _ (heap_lt HZ7x5.out)).trans HZ7x5.out)
            clear hb
            (try go_wp2_with fail)
            refine hK.out _ _ (SU.of HTx6.out) (fun hHeld => ?_)
            clear hK K hOld
            try simp only [Act.put, List.setIfInBounds_toArray, List.set_cons_zero, List.set_cons_succ]
            refine wpAnyH_ready (rs := [8]) (by kernel_rfl) (by simp) (AllReadyH.cons (o := { dst := none, op := Op.store 37 (Operand.tmp 8) (Operand.tmp 22), type := 0, pos := "law.go:107", after := #[{ on := 6, ground := Ground.data }, { on := 2, ground := Ground.data }, { on := 5, ground := Ground.chain }, { on := 0, ground := Ground.phase }, { on := 1, ground := Ground.phase }, { on := 2, ground := Ground.phase }, { on := 3, ground := Ground.textOnly Departure.lateStores }, { on := 4, ground := Ground.textOnly Departure.lateStoresUnsure }, { on := 5, ground := Ground.textOnly Departure.lateStoresUnsure }, { on := 6, ground := Ground.phase }, { on := 7, ground := Ground.phase }], guard := none }) rfl (fun K hK => ?_) AllReadyH.nil)
            have hOld := hide hHeld
            clear hHeld
            have HZ6x7 := hide (show (World.setRow v6 v2.heap.size (tagC tk tl s tp tn)).heap[v2.heap.size]? = some (.cells (tagC tk tl s tp tn) 37 (0, 0)) from setRow_heap _ _ _ _ _ _ HZ6x6.out)
            have HZ7x7 := hide ((setRow_other v6 v2.heap.size v3.heap.size (tagC tk tl s tp tn) (by omega)).trans HZ7x6.out)
            have HTx7 := hide (HTx6.out.row v2.heap.size (by omega) (by omega) (by omega) (by omega) (tagC tk tl s tp tn))
            refine wp_store_row 37 (.tmp 8) (.tmp 22) rfl (v2.heap.size) rfl (tagC tk tl s tp tn) rfl (tagC 0 0 0 0 0) HZ6x6.out (tag_size _ _ _ _ _) rfl (tagC_one _ _ _ _ _) ?_
            generalize (World.setRow v6 v2.heap.size (tagC tk tl s tp tn)) = v7 at *
            refine hK.out _ _ (SU.of HTx7.out) (fun hHeld => ?_)
            clear hK K hOld
            try simp only [Act.put, List.setIfInBounds_toArray, List.set_cons_zero, List.set_cons_succ]
            refine wpAnyH_ready (rs := [9]) (by kernel_rfl) (by simp) (AllReadyH.cons (o := { dst := none, op := Op.store 37 (Operand.tmp 9) (Operand.tmp 25), type := 0, pos := "law.go:107", after := #[{ on := 7, ground := Ground.data }, { on := 5, ground := Ground.data }, { on := 8, ground := Ground.chain }, { on := 0, ground := Ground.phase }, { on := 1, ground := Ground.phase }, { on := 2, ground := Ground.phase }, { on := 3, ground := Ground.phase }, { on := 4, ground := Ground.phase }, { on := 5, ground := Ground.phase }, { on := 6, ground := Ground.phase }, { on := 7, ground := Ground.phase }, { on := 8, ground := Ground.phase }], guard := none }) rfl (fun K hK => ?_) AllReadyH.nil)
            have hOld := hide hHeld
            clear hHeld
            have HZ7x8 := hide (show (World.setRow v7 v3.heap.size (tagC tk' tl' s' tp' tn')).heap[v3.heap.size]? = some (.cells (tagC tk' tl' s' tp' tn') 37 (0, 0)) from setRow_heap _ _ _ _ _ _ HZ7x7.out)
            have HZ6x8 := hide ((setRow_other v7 v3.heap.size v2.heap.size (tagC tk' tl' s' tp' tn') (by omega)).trans HZ6x7.out)
            have HTx8 := hide (HTx7.out.row v3.heap.size (by omega) (by omega) (by omega) (by omega) (tagC tk' tl' s' tp' tn'))
            refine wp_store_row 37 (.tmp 9) (.tmp 25) rfl (v3.heap.size) rfl (tagC tk' tl' s' tp' tn') rfl (tagC 0 0 0 0 0) HZ7x7.out (tag_size _ _ _ _ _) rfl (tagC_one _ _ _ _ _) ?_
            generalize (World.setRow v7 v3.heap.size (tagC tk' tl' s' tp' tn')) = v8 at *
            refine hK.out _ _ (SU.of HTx8.out) (fun hHeld => ?_)
            clear hK K hOld
            try simp only [Act.put, List.setIfInBounds_toArray, List.set_cons_zero, List.set_cons_succ]
            refine wpAnyH_done (by kernel_rfl) ?_ _
            go_wp2_with fail
            go_meet
            exact ⟨_, _, rfl, rfl, HZ6x8.out, HZ7x8.out, HTx8.out.tab, HTx8.out.below⟩
        · have hOld := hide hHeld
          clear hHeld
          go_simp
          have HTx3 := hide (HTx2.out.alloc (Obj.cells #[.int .u8 0, .int .i64 0, .int .u64 0, .int .i64 0, .int .i64 0] 37))
          have HZ7x3 := hide (show (World.alloc v2 (Obj.cells #[.int .u8 0, .int .i64 0, .int .u64 0, .int .i64 0, .int .i64 0] 37)).heap[v2.heap.size]? = some (.cells (tagC 0 0 0 0 0) 37 (0, 0)) from heapNew v2 (Obj.cells #[.int .u8 0, .int .i64 0, .int .u64 0, .int .i64 0, .int .i64 0] 37))
          have hn7 : w.heap.size + 1 < v2.heap.size ∧ pb < v2.heap.size := ⟨heap_lt HTx2.out.two, tabAt_lt HTx2.out.tab⟩
          generalize World.alloc v2 (Obj.cells #[.int .u8 0, .int .i64 0, .int .u64 0, .int .i64 0, .int .i64 0] 37) = v3 at *
          (try go_wp2_with fail)
          refine hK.out _ _ (SU.of HTx3.out) (fun hHeld => ?_)
          clear hK K hOld
          try simp only [Act.put, List.setIfInBounds_toArray, List.set_cons_zero, List.set_cons_succ]
          refine wpAnyH_ready (rs := [4, 6]) (by kernel_rfl) (by simp) (AllReadyH.cons (o := { dst := some 24, op := Op.call { callee := Callee.value (Operand.func 8), args := #[Operand.tmp 23], argTypes := #[24] }, type := 24, pos := "law.go:107", after := #[{ on := 3, ground := Ground.data }, { on := 2, ground := Ground.chain }], guard := none }) rfl (fun K hK => ?_) (AllReadyH.cons (o := { dst := some 8, op := Op.alloc 37, type := 0, pos := "law.go:107", after := #[], guard := none }) rfl (fun K hK => ?_) AllReadyH.nil))
          · have hOld := hide hHeld
            clear hHeld
            go_simp
            refine (HTA2.out _).mono ?_
            rintro e v4 ⟨rfl, hb⟩
            have HTx4 := hide (HTx3.out.kept hb)
            have HZ7x4 := hide ((hb.block _ (heap_lt HZ7x3.out)).trans HZ7x3.out)
            clear hb
            (try go_wp2_with fail)
            refine hK.out _ _ (SU.of HTx4.out) (fun hHeld => ?_)
            clear hK K hOld
            try simp only [Act.put, List.setIfInBounds_toArray, List.set_cons_zero, List.set_cons_succ]
            refine wpAnyH_ready (rs := [5, 6]) (by kernel_rfl) (by simp) (AllReadyH.cons (o := { dst := some 25, op := Op.call { callee := Callee.value (Operand.func 10), args := #[Operand.tmp 24], argTypes := #[24] }, type := 37, pos := "law.go:107", after := #[{ on := 4, ground := Ground.data }, { on := 4, ground := Ground.chain }], guard := none }) rfl (fun K hK => ?_) (AllReadyH.cons (o := { dst := some 8, op := Op.alloc 37, type := 0, pos := "law.go:107", after := #[], guard := none }) rfl (fun K hK => ?_) AllReadyH.nil))
            · have hOld := hide hHeld
              clear hHeld
              go_simp
              refine (HOF2.out _).mono ?_
              rintro e v5 ⟨rfl, hb⟩
              have HTx5 := hide (HTx4.out.kept hb)
              have HZ7x5 := hide ((hb.block _ (heap_lt HZ7x4.out)).trans HZ7x4.out)
              clear hb
              (try go_wp2_with fail)
              refine hK.out _ _ (SU.of HTx5.out) (fun hHeld => ?_)
              clear hK K hOld
              try simp only [Act.put, List.setIfInBounds_toArray, List.set_cons_zero, List.set_cons_succ]
              refine wpAnyH_ready (rs := [6]) (by kernel_rfl) (by simp) (AllReadyH.cons (o := { dst := some 8, op := Op.alloc 37, type := 0, pos := "law.go:107", after := #[], guard := none }) rfl (fun K hK => ?_) AllReadyH.nil)
              have hOld := hide hHeld
              clear hHeld
              go_simp
              have HTx6 := hide (HTx5.out.alloc (Obj.cells #[.int .u8 0, .int .i64 0, .int .u64 0, .int .i64 0, .int .i64 0] 37))
              have HZ7x6 := hide ((heap_old _ (Obj.cells #[.int .u8 0, .int .i64 0, .int .u64 0, .int .i64 0, .int .i64 0] 37) _ (heap_lt HZ7x5.out)).trans HZ7x5.out)
              have HZ6x6 := hide (show (World.alloc v5 (Obj.cells #[.int .u8 0, .int .i64 0, .int .u64 0, .int .i64 0, .int .i64 0] 37)).heap[v5.heap.size]? = some (.cells (tagC 0 0 0 0 0) 37 (0, 0)) from heapNew v5 (Obj.cells #[.int .u8 0, .int .i64 0, .int .u64 0, .int .i64 0, .int .i64 0] 37))
              have hn6 : w.heap.size + 1 < v5.heap.size ∧ pb < v5.heap.size := ⟨heap_lt HTx5.out.two, tabAt_lt HTx5.out.tab⟩
              have hzz : v2.heap.size < v5.heap.size := heap_lt HZ7x5.out
              generalize World.alloc v5 (Obj.cells #[.int .u8 0, .int .i64 0, .int .u64 0, .int .i64 0, .int .i64 0] 37) = v6 at *
              (try go_wp2_with fail)
              refine hK.out _ _ (SU.of HTx6.out) (fun hHeld => ?_)
              clear hK K hOld
              try simp only [Act.put, List.setIfInBounds_toArray, List.set_cons_zero, List.set_cons_succ]
              refine wpAnyH_ready (rs := [8]) (by kernel_rfl) (by simp) (AllReadyH.cons (o := { dst := none, op := Op.store 37 (Operand.tmp 8) (Operand.tmp 22), type := 0, pos := "law.go:107", after := #[{ on := 6, ground := Ground.data }, { on := 2, ground := Ground.data }, { on := 5, ground := Ground.chain }, { on := 0, ground := Ground.phase }, { on := 1, ground := Ground.phase }, { on := 2, ground := Ground.phase }, { on := 3, ground := Ground.textOnly Departure.lateStores }, { on := 4, ground := Ground.textOnly Departure.lateStoresUnsure }, { on := 5, ground := Ground.textOnly Departure.lateStoresUnsure }, { on := 6, ground := Ground.phase }, { on := 7, ground := Ground.phase }], guard := none }) rfl (fun K hK => ?_) AllReadyH.nil)
              have hOld := hide hHeld
              clear hHeld
              have HZ6x7 := hide (show (World.setRow v6 v5.heap.size (tagC tk tl s tp tn)).heap[v5.heap.size]? = some (.cells (tagC tk tl s tp tn) 37 (0, 0)) from setRow_heap _ _ _ _ _ _ HZ6x6.out)
              have HZ7x7 := hide ((setRow_other v6 v5.heap.size v2.heap.size (tagC tk tl s tp tn) (by omega)).trans HZ7x6.out)
              have HTx7 := hide (HTx6.out.row v5.heap.size (by omega) (by omega) (by omega) (by omega) (tagC tk tl s tp tn))
              refine wp_store_row 37 (.tmp 8) (.tmp 22) rfl (v5.heap.size) rfl (tagC tk tl s tp tn) rfl (tagC 0 0 0 0 0) HZ6x6.out (tag_size _ _ _ _ _) rfl (tagC_one _ _ _ _ _) ?_
              generalize (World.setRow v6 v5.heap.size (tagC tk tl s tp tn)) = v7 at *
              refine hK.out _ _ (SU.of HTx7.out) (fun hHeld => ?_)
              clear hK K hOld
              try simp only [Act.put, List.setIfInBounds_toArray, List.set_cons_zero, List.set_cons_succ]
              refine wpAnyH_ready (rs := [9]) (by kernel_rfl) (by simp) (AllReadyH.cons (o := { dst := none, op := Op.store 37 (Operand.tmp 9) (Operand.tmp 25), type := 0, pos := "law.go:107", after := #[{ on := 7, ground := Ground.data }, { on := 5, ground := Ground.data }, { on := 8, ground := Ground.chain }, { on := 0, ground := Ground.phase }, { on := 1, ground := Ground.phase }, { on := 2, ground := Ground.phase }, { on := 3, ground := Ground.phase }, { on := 4, ground := Ground.phase }, { on := 5, ground := Ground.phase }, { on := 6, ground := Ground.phase }, { on := 7, ground := Ground.phase }, { on := 8, ground := Ground.phase }], guard := none }) rfl (fun K hK => ?_) AllReadyH.nil)
              have hOld := hide hHeld
              clear hHeld
              have HZ7x8 := hide (show (World.setRow v7 v2.heap.size (tagC tk' tl' s' tp' tn')).heap[v2.heap.size]? = some (.cells (tagC tk' tl' s' tp' tn') 37 (0, 0)) from setRow_heap _ _ _ _ _ _ HZ7x7.out)
              have HZ6x8 := hide ((setRow_other v7 v2.heap.size v5.heap.size (tagC tk' tl' s' tp' tn') (by omega)).trans HZ6x7.out)
              have HTx8 := hide (HTx7.out.row v2.heap.size (by omega) (by omega) (by omega) (by omega) (tagC tk' tl' s' tp' tn'))
              refine wp_store_row 37 (.tmp 9) (.tmp 25) rfl (v2.heap.size) rfl (tagC tk' tl' s' tp' tn') rfl (tagC 0 0 0 0 0) HZ7x7.out (tag_size _ _ _ _ _) rfl (tagC_one _ _ _ _ _) ?_
              generalize (World.setRow v7 v2.heap.size (tagC tk' tl' s' tp' tn')) = v8 at *
              refine hK.out _ _ (SU.of HTx8.out) (fun hHeld => ?_)
              clear hK K hOld
              try simp only [Act.put, List.setIfInBounds_toArray, List.set_cons_zero, List.set_cons_succ]
              refine wpAnyH_done (by kernel_rfl) ?_ _
              go_wp2_with fail
              go_meet
              exact ⟨_, _, rfl, rfl, HZ6x8.out, HZ7x8.out, HTx8.out.tab, HTx8.out.below⟩
            · have hOld := hide hHeld
              clear hHeld
              go_simp
              have HTx5 := hide (HTx4.out.alloc (Obj.cells #[.int .u8 0, .int .i64 0, .int .u64 0, .int .i64 0, .int .i64 0] 37))
              have HZ7x5 := hide ((heap_old _ (Obj.cells #[.int .u8 0, .int .i64 0, .int .u64 0, .int .i64 0, .int .i64 0] 37) _ (heap_lt HZ7x4.out)).trans HZ7x4.out)
              have HZ6x5 := hide (show (World.alloc v4 (Obj.cells #[.int .u8 0, .int .i64 0, .int .u64 0, .int .i64 0, .int .i64 0] 37)).heap[v4.heap.size]? = some (.cells (tagC 0 0 0 0 0) 37 (0, 0)) from heapNew v4 (Obj.cells #[.int .u8 0, .int .i64 0, .int .u64 0, .int .i64 0, .int .i64 0] 37))
              have hn6 : w.heap.size + 1 < v4.heap.size ∧ pb < v4.heap.size := ⟨heap_lt HTx4.out.two, tabAt_lt HTx4.out.tab⟩
              have hzz : v2.heap.size < v4.heap.size := heap_lt HZ7x4.out
              generalize World.alloc v4 (Obj.cells #[.int .u8 0, .int .i64 0, .int .u64 0, .int .i64 0, .int .i64 0] 37) = v5 at *
              (try go_wp2_with fail)
              refine hK.out _ _ (SU.of HTx5.out) (fun hHeld => ?_)
              clear hK K hOld
              try simp only [Act.put, List.setIfInBounds_toArray, List.set_cons_zero, List.set_cons_succ]
              refine wpAnyH_ready (rs := [5]) (by kernel_rfl) (by simp) (AllReadyH.cons (o := { dst := some 25, op := Op.call { callee := Callee.value (Operand.func 10), args := #[Operand.tmp 24], argTypes := #[24] }, type := 37, pos := "law.go:107", after := #[{ on := 4, ground := Ground.data }, { on := 4, ground := Ground.chain }], guard := none }) rfl (fun K hK => ?_) AllReadyH.nil)
              have hOld := hide hHeld
              clear hHeld
              go_simp
              refine (HOF2.out _).mono ?_
              rintro e v6 ⟨rfl, hb⟩
              have HTx6 := hide (HTx5.out.kept hb)
              have HZ6x6 := hide ((hb.block _ (heap_lt HZ6x5.out)).trans HZ6x5.out)
              have HZ7x6 := hide ((hb.block _ (heap_lt HZ7x5.out)).trans HZ7x5.out)
              clear hb
              (try go_wp2_with fail)
              refine hK.out _ _ (SU.of HTx6.out) (fun hHeld => ?_)
              clear hK K hOld
              try simp only [Act.put, List.setIfInBounds_toArray, List.set_cons_zero, List.set_cons_succ]
              refine wpAnyH_ready (rs := [8]) (by kernel_rfl) (by simp) (AllReadyH.cons (o := { dst := none, op := Op.store 37 (Operand.tmp 8) (Operand.tmp 22), type := 0, pos := "law.go:107", after := #[{ on := 6, ground := Ground.data }, { on := 2, ground := Ground.data }, { on := 5, ground := Ground.chain }, { on := 0, ground := Ground.phase }, { on := 1, ground := Ground.phase }, { on := 2, ground := Ground.phase }, { on := 3, ground := Ground.textOnly Departure.lateStores }, { on := 4, ground := Ground.textOnly Departure.lateStoresUnsure }, { on := 5, ground := Ground.textOnly Departure.lateStoresUnsure }, { on := 6, ground := Ground.phase }, { on := 7, ground := Ground.phase }], guard := none }) rfl (fun K hK => ?_) AllReadyH.nil)
              have hOld := hide hHeld
              clear hHeld
              have HZ6x7 := hide (show (World.setRow v6 v4.heap.size (tagC tk tl s tp tn)).heap[v4.heap.size]? = some (.cells (tagC tk tl s tp tn) 37 (0, 0)) from setRow_heap _ _ _ _ _ _ HZ6x6.out)
              have HZ7x7 := hide ((setRow_other v6 v4.heap.size v2.heap.size (tagC tk tl s tp tn) (by omega)).trans HZ7x6.out)
              have HTx7 := hide (HTx6.out.row v4.heap.size (by omega) (by omega) (by omega) (by omega) (tagC tk tl s tp tn))
              refine wp_store_row 37 (.tmp 8) (.tmp 22) rfl (v4.heap.size) rfl (tagC tk tl s tp tn) rfl (tagC 0 0 0 0 0) HZ6x6.out (tag_size _ _ _ _ _) rfl (tagC_one _ _ _ _ _) ?_
              generalize (World.setRow v6 v4.heap.size (tagC tk tl s tp tn)) = v7 at *
              refine hK.out _ _ (SU.of HTx7.out) (fun hHeld => ?_)
              clear hK K hOld
              try simp only [Act.put, List.setIfInBounds_toArray, List.set_cons_zero, List.set_cons_succ]
              refine wpAnyH_ready (rs := [9]) (by kernel_rfl) (by simp) (AllReadyH.cons (o := { dst := none, op := Op.store 37 (Operand.tmp 9) (Operand.tmp 25), type := 0, pos := "law.go:107", after := #[{ on := 7, ground := Ground.data }, { on := 5, ground := Ground.data }, { on := 8, ground := Ground.chain }, { on := 0, ground := Ground.phase }, { on := 1, ground := Ground.phase }, { on := 2, ground := Ground.phase }, { on := 3, ground := Ground.phase }, { on := 4, ground := Ground.phase }, { on := 5, ground := Ground.phase }, { on := 6, ground := Ground.phase }, { on := 7, ground := Ground.phase }, { on := 8, ground := Ground.phase }], guard := none }) rfl (fun K hK => ?_) AllReadyH.nil)
              have hOld := hide hHeld
              clear hHeld
              have HZ7x8 := hide (show (World.setRow v7 v2.heap.size (tagC tk' tl' s' tp' tn')).heap[v2.heap.size]? = some (.cells (tagC tk' tl' s' tp' tn') 37 (0, 0)) from setRow_heap _ _ _ _ _ _ HZ7x7.out)
              have HZ6x8 := hide ((setRow_other v7 v2.heap.size v4.heap.size (tagC tk' tl' s' tp' tn') (by omega)).trans HZ6x7.out)
              have HTx8 := hide (HTx7.out.row v2.heap.size (by omega) (by omega) (by omega) (by omega) (tagC tk' tl' s' tp' tn'))
              refine wp_store_row 37 (.tmp 9) (.tmp 25) rfl (v2.heap.size) rfl (tagC tk' tl' s' tp' tn') rfl (tagC 0 0 0 0 0) HZ7x7.out (tag_size _ _ _ _ _) rfl (tagC_one _ _ _ _ _) ?_
              generalize (World.setRow v7 v2.heap.size (tagC tk' tl' s' tp' tn')) = v8 at *
              refine hK.out _ _ (SU.of HTx8.out) (fun hHeld => ?_)
              clear hK K hOld
              try simp only [Act.put, List.setIfInBounds_toArray, List.set_cons_zero, List.set_cons_succ]
              refine wpAnyH_done (by kernel_rfl) ?_ _
              go_wp2_with fail
              go_meet
              exact ⟨_, _, rfl, rfl, HZ6x8.out, HZ7x8.out, HTx8.out.tab, HTx8.out.below⟩
          · have hOld := hide hHeld
            clear hHeld
            go_simp
            have HTx4 := hide (HTx3.out.alloc (Obj.cells #[.int .u8 0, .int .i64 0, .int .u64 0, .int .i64 0, .int .i64 0] 37))
            have HZ7x4 := hide ((heap_old _ (Obj.cells #[.int .u8 0, .int .i64 0, .int .u64 0, .int .i64 0, .int .i64 0] 37) _ (heap_lt HZ7x3.out)).trans HZ7x3.out)
            have HZ6x4 := hide (show (World.alloc v3 (Obj.cells #[.int .u8 0, .int .i64 0, .int .u64 0, .int .i64 0, .int .i64 0] 37)).heap[v3.heap.size]? = some (.cells (tagC 0 0 0 0 0) 37 (0, 0)) from heapNew v3 (Obj.cells #[.int .u8 0, .int .i64 0, .int .u64 0, .int .i64 0, .int .i64 0] 37))
            have hn6 : w.heap.size + 1 < v3.heap.size ∧ pb < v3.heap.size := ⟨heap_lt HTx3.out.two, tabAt_lt HTx3.out.tab⟩
            have hzz : v2.heap.size < v3.heap.size := heap_lt HZ7x3.out
            generalize World.alloc v3 (Obj.cells #[.int .u8 0, .int .i64 0, .int .u64 0, .int .i64 0, .int .i64 0] 37) = v4 at *
            (try go_wp2_with fail)
            refine hK.out _ _ (SU.of HTx4.out) (fun hHeld => ?_)
            clear hK K hOld
            try simp only [Act.put, List.setIfInBounds_toArray, List.set_cons_zero, List.set_cons_succ]
            refine wpAnyH_ready (rs := [4]) (by kernel_rfl) (by simp) (AllReadyH.cons (o := { dst := some 24, op := Op.call { callee := Callee.value (Operand.func 8), args := #[Operand.tmp 23], argTypes := #[24] }, type := 24, pos := "law.go:107", after := #[{ on := 3, ground := Ground.data }, { on := 2, ground := Ground.chain }], guard := none }) rfl (fun K hK => ?_) AllReadyH.nil)
            have hOld := hide hHeld
            clear hHeld
            go_simp
            refine (HTA2.out _).mono ?_
            rintro e v5 ⟨rfl, hb⟩
            have HTx5 := hide (HTx4.out.kept hb)
            have HZ6x5 := hide ((hb.block _ (heap_lt HZ6x4.out)).trans HZ6x4.out)
            have HZ7x5 := hide ((hb.block _ (heap_lt HZ7x4.out)).trans HZ7x4.out)
            clear hb
            (try go_wp2_with fail)
            refine hK.out _ _ (SU.of HTx5.out) (fun hHeld => ?_)
            clear hK K hOld
            try simp only [Act.put, List.setIfInBounds_toArray, List.set_cons_zero, List.set_cons_succ]
            refine wpAnyH_ready (rs := [5]) (by kernel_rfl) (by simp) (AllReadyH.cons (o := { dst := some 25, op := Op.call { callee := Callee.value (Operand.func 10), args := #[Operand.tmp 24], argTypes := #[24] }, type := 37, pos := "law.go:107", after := #[{ on := 4, ground := Ground.data }, { on := 4, ground := Ground.chain }], guard := none }) rfl (fun K hK => ?_) AllReadyH.nil)
            have hOld := hide hHeld
            clear hHeld
            go_simp
            refine (HOF2.out _).mono ?_
            rintro e v6 ⟨rfl, hb⟩
            have HTx6 := hide (HTx5.out.kept hb)
            have HZ6x6 := hide ((hb.block _ (heap_lt HZ6x5.out)).trans HZ6x5.out)
            have HZ7x6 := hide ((hb.block _ (heap_lt HZ7x5.out)).trans HZ7x5.out)
            clear hb
            (try go_wp2_with fail)
            refine hK.out _ _ (SU.of HTx6.out) (fun hHeld => ?_)
            clear hK K hOld
            try simp only [Act.put, List.setIfInBounds_toArray, List.set_cons_zero, List.set_cons_succ]
            refine wpAnyH_ready (rs := [8]) (by kernel_rfl) (by simp) (AllReadyH.cons (o := { dst := none, op := Op.store 37 (Operand.tmp 8) (Operand.tmp 22), type := 0, pos := "law.go:107", after := #[{ on := 6, ground := Ground.data }, { on := 2, ground := Ground.data }, { on := 5, ground := Ground.chain }, { on := 0, ground := Ground.phase }, { on := 1, ground := Ground.phase }, { on := 2, ground := Ground.phase }, { on := 3, ground := Ground.textOnly Departure.lateStores }, { on := 4, ground := Ground.textOnly Departure.lateStoresUnsure }, { on := 5, ground := Ground.textOnly Departure.lateStoresUnsure }, { on := 6, ground := Ground.phase }, { on := 7, ground := Ground.phase }], guard := none }) rfl (fun K hK => ?_) AllReadyH.nil)
            have hOld := hide hHeld
            clear hHeld
            have HZ6x7 := hide (show (World.setRow v6 v3.heap.size (tagC tk tl s tp tn)).heap[v3.heap.size]? = some (.cells (tagC tk tl s tp tn) 37 (0, 0)) from setRow_heap _ _ _ _ _ _ HZ6x6.out)
            have HZ7x7 := hide ((setRow_other v6 v3.heap.size v2.heap.size (tagC tk tl s tp tn) (by omega)).trans HZ7x6.out)
            have HTx7 := hide (HTx6.out.row v3.heap.size (by omega) (by omega) (by omega) (by omega) (tagC tk tl s tp tn))
            refine wp_store_row 37 (.tmp 8) (.tmp 22) rfl (v3.heap.size) rfl (tagC tk tl s tp tn) rfl (tagC 0 0 0 0 0) HZ6x6.out (tag_size _ _ _ _ _) rfl (tagC_one _ _ _ _ _) ?_
            generalize (World.setRow v6 v3.heap.size (tagC tk tl s tp tn)) = v7 at *
            refine hK.out _ _ (SU.of HTx7.out) (fun hHeld => ?_)
            clear hK K hOld
            try simp only [Act.put, List.setIfInBounds_toArray, List.set_cons_zero, List.set_cons_succ]
            refine wpAnyH_ready (rs := [9]) (by kernel_rfl) (by simp) (AllReadyH.cons (o := { dst := none, op := Op.store 37 (Operand.tmp 9) (Operand.tmp 25), type := 0, pos := "law.go:107", after := #[{ on := 7, ground := Ground.data }, { on := 5, ground := Ground.data }, { on := 8, ground := Ground.chain }, { on := 0, ground := Ground.phase }, { on := 1, ground := Ground.phase }, { on := 2, ground := Ground.phase }, { on := 3, ground := Ground.phase }, { on := 4, ground := Ground.phase }, { on := 5, ground := Ground.phase }, { on := 6, ground := Ground.phase }, { on := 7, ground := Ground.phase }, { on := 8, ground := Ground.phase }], guard := none }) rfl (fun K hK => ?_) AllReadyH.nil)
            have hOld := hide hHeld
            clear hHeld
            have HZ7x8 := hide (show (World.setRow v7 v2.heap.size (tagC tk' tl' s' tp' tn')).heap[v2.heap.size]? = some (.cells (tagC tk' tl' s' tp' tn') 37 (0, 0)) from setRow_heap _ _ _ _ _ _ HZ7x7.out)
            have HZ6x8 := hide ((setRow_other v7 v2.heap.size v3.heap.size (tagC tk' tl' s' tp' tn') (by omega)).trans HZ6x7.out)
            have HTx8 := hide (HTx7.out.row v2.heap.size (by omega) (by omega) (by omega) (by omega) (tagC tk' tl' s' tp' tn'))
            refine wp_store_row 37 (.tmp 9) (.tmp 25) rfl (v2.heap.size) rfl (tagC tk' tl' s' tp' tn') rfl (tagC 0 0 0 0 0) HZ7x7.out (tag_size _ _ _ _ _) rfl (tagC_one _ _ _ _ _) ?_
            generalize (World.setRow v7 v2.heap.size (tagC tk' tl' s' tp' tn')) = v8 at *
            refine hK.out _ _ (SU.of HTx8.out) (fun hHeld => ?_)
            clear hK K hOld
            try simp only [Act.put, List.setIfInBounds_toArray, List.set_cons_zero, List.set_cons_succ]
            refine wpAnyH_done (by kernel_rfl) ?_ _
            go_wp2_with fail
            go_meet
            exact ⟨_, _, rfl, rfl, HZ6x8.out, HZ7x8.out, HTx8.out.tab, HTx8.out.below⟩
      · have hOld := hide hHeld
        clear hHeld
        go_simp
        have HTx2 := hide (HTx1.out.alloc (Obj.cells #[.int .u8 0, .int .i64 0, .int .u64 0, .int .i64 0, .int .i64 0] 37))
        have HZ6x2 := hide (show (World.alloc v1 (Obj.cells #[.int .u8 0, .int .i64 0, .int .u64 0, .int .i64 0, .int .i64 0] 37)).heap[v1.heap.size]? = some (.cells (tagC 0 0 0 0 0) 37 (0, 0)) from heapNew v1 (Obj.cells #[.int .u8 0, .int .i64 0, .int .u64 0, .int .i64 0, .int .i64 0] 37))
        have hn6 : w.heap.size + 1 < v1.heap.size ∧ pb < v1.heap.size := ⟨heap_lt HTx1.out.two, tabAt_lt HTx1.out.tab⟩
        generalize World.alloc v1 (Obj.cells #[.int .u8 0, .int .i64 0, .int .u64 0, .int .i64 0, .int .i64 0] 37) = v2 at *
        (try go_wp2_with fail)
        refine hK.out _ _ (SU.of HTx2.out) (fun hHeld => ?_)
        clear hK K hOld
        try simp only [Act.put, List.setIfInBounds_toArray, List.set_cons_zero, List.set_cons_succ]
        refine wpAnyH_ready (rs := [2, 7]) (by kernel_rfl) (by simp) (AllReadyH.cons (o := { dst := some 22, op := Op.call { callee := Callee.value (Operand.func 10), args := #[Operand.tmp 21], argTypes := #[24] }, type := 37, pos := "law.go:107", after := #[{ on := 1, ground := Ground.data }, { on := 1, ground := Ground.chain }], guard := none }) rfl (fun K hK => ?_) (AllReadyH.cons (o := { dst := some 9, op := Op.alloc 37, type := 0, pos := "law.go:107", after := #[], guard := none }) rfl (fun K hK => ?_) AllReadyH.nil))
        · have hOld := hide hHeld
          clear hHeld
          go_simp
          refine (HOF.out _).mono ?_
          rintro e v3 ⟨rfl, hb⟩
          have HTx3 := hide (HTx2.out.kept hb)
          have HZ6x3 := hide ((hb.block _ (heap_lt HZ6x2.out)).trans HZ6x2.out)
          clear hb
          (try go_wp2_with fail)
          refine hK.out _ _ (SU.of HTx3.out) (fun hHeld => ?_)
          clear hK K hOld
          try simp only [Act.put, List.setIfInBounds_toArray, List.set_cons_zero, List.set_cons_succ]
          refine wpAnyH_ready (rs := [4, 7]) (by kernel_rfl) (by simp) (AllReadyH.cons (o := { dst := some 24, op := Op.call { callee := Callee.value (Operand.func 8), args := #[Operand.tmp 23], argTypes := #[24] }, type := 24, pos := "law.go:107", after := #[{ on := 3, ground := Ground.data }, { on := 2, ground := Ground.chain }], guard := none }) rfl (fun K hK => ?_) (AllReadyH.cons (o := { dst := some 9, op := Op.alloc 37, type := 0, pos := "law.go:107", after := #[], guard := none }) rfl (fun K hK => ?_) AllReadyH.nil))
          · have hOld := hide hHeld
            clear hHeld
            go_simp
            refine (HTA2.out _).mono ?_
            rintro e v4 ⟨rfl, hb⟩
            have HTx4 := hide (HTx3.out.kept hb)
            have HZ6x4 := hide ((hb.block _ (heap_lt HZ6x3.out)).trans HZ6x3.out)
            clear hb
            (try go_wp2_with fail)
            refine hK.out _ _ (SU.of HTx4.out) (fun hHeld => ?_)
            clear hK K hOld
            try simp only [Act.put, List.setIfInBounds_toArray, List.set_cons_zero, List.set_cons_succ]
            refine wpAnyH_ready (rs := [5, 7]) (by kernel_rfl) (by simp) (AllReadyH.cons (o := { dst := some 25, op := Op.call { callee := Callee.value (Operand.func 10), args := #[Operand.tmp 24], argTypes := #[24] }, type := 37, pos := "law.go:107", after := #[{ on := 4, ground := Ground.data }, { on := 4, ground := Ground.chain }], guard := none }) rfl (fun K hK => ?_) (AllReadyH.cons (o := { dst := some 9, op := Op.alloc 37, type := 0, pos := "law.go:107", after := #[], guard := none }) rfl (fun K hK => ?_) AllReadyH.nil))
            · have hOld := hide hHeld
              clear hHeld
              go_simp
              refine (HOF2.out _).mono ?_
              rintro e v5 ⟨rfl, hb⟩
              have HTx5 := hide (HTx4.out.kept hb)
              have HZ6x5 := hide ((hb.block _ (heap_lt HZ6x4.out)).trans HZ6x4.out)
              clear hb
              (try go_wp2_with fail)
              refine hK.out _ _ (SU.of HTx5.out) (fun hHeld => ?_)
              clear hK K hOld
              try simp only [Act.put, List.setIfInBounds_toArray, List.set_cons_zero, List.set_cons_succ]
              refine wpAnyH_ready (rs := [7]) (by kernel_rfl) (by simp) (AllReadyH.cons (o := { dst := some 9, op := Op.alloc 37, type := 0, pos := "law.go:107", after := #[], guard := none }) rfl (fun K hK => ?_) AllReadyH.nil)
              have hOld := hide hHeld
              clear hHeld
              go_simp
              have HTx6 := hide (HTx5.out.alloc (Obj.cells #[.int .u8 0, .int .i64 0, .int .u64 0, .int .i64 0, .int .i64 0] 37))
              have HZ6x6 := hide ((heap_old _ (Obj.cells #[.int .u8 0, .int .i64 0, .int .u64 0, .int .i64 0, .int .i64 0] 37) _ (heap_lt HZ6x5.out)).trans HZ6x5.out)
              have HZ7x6 := hide (show (World.alloc v5 (Obj.cells #[.int .u8 0, .int .i64 0, .int .u64 0, .int .i64 0, .int .i64 0] 37)).heap[v5.heap.size]? = some (.cells (tagC 0 0 0 0 0) 37 (0, 0)) from heapNew v5 (Obj.cells #[.int .u8 0, .int .i64 0, .int .u64 0, .int .i64 0, .int .i64 0] 37))
              have hn7 : w.heap.size + 1 < v5.heap.size ∧ pb < v5.heap.size := ⟨heap_lt HTx5.out.two, tabAt_lt HTx5.out.tab⟩
              have hzz : v1.heap.size < v5.heap.size := heap_lt HZ6x5.out
              generalize World.alloc v5 (Obj.cells #[.int .u8 0, .int .i64 0, .int .u64 0, .int .i64 0, .int .i64 0] 37) = v6 at *
              (try go_wp2_with fail)
              refine hK.out _ _ (SU.of HTx6.out) (fun hHeld => ?_)
              clear hK K hOld
              try simp only [Act.put, List.setIfInBounds_toArray, List.set_cons_zero, List.set_cons_succ]
              refine wpAnyH_ready (rs := [8]) (by kernel_rfl) (by simp) (AllReadyH.cons (o := { dst := none, op := Op.store 37 (Operand.tmp 8) (Operand.tmp 22), type := 0, pos := "law.go:107", after := #[{ on := 6, ground := Ground.data }, { on := 2, ground := Ground.data }, { on := 5, ground := Ground.chain }, { on := 0, ground := Ground.phase }, { on := 1, ground := Ground.phase }, { on := 2, ground := Ground.phase }, { on := 3, ground := Ground.textOnly Departure.lateStores }, { on := 4, ground := Ground.textOnly Departure.lateStoresUnsure }, { on := 5, ground := Ground.textOnly Departure.lateStoresUnsure }, { on := 6, ground := Ground.phase }, { on := 7, ground := Ground.phase }], guard := none }) rfl (fun K hK => ?_) AllReadyH.nil)
              have hOld := hide hHeld
              clear hHeld
              have HZ6x7 := hide (show (World.setRow v6 v1.heap.size (tagC tk tl s tp tn)).heap[v1.heap.size]? = some (.cells (tagC tk tl s tp tn) 37 (0, 0)) from setRow_heap _ _ _ _ _ _ HZ6x6.out)
              have HZ7x7 := hide ((setRow_other v6 v1.heap.size v5.heap.size (tagC tk tl s tp tn) (by omega)).trans HZ7x6.out)
              have HTx7 := hide (HTx6.out.row v1.heap.size (by omega) (by omega) (by omega) (by omega) (tagC tk tl s tp tn))
              refine wp_store_row 37 (.tmp 8) (.tmp 22) rfl (v1.heap.size) rfl (tagC tk tl s tp tn) rfl (tagC 0 0 0 0 0) HZ6x6.out (tag_size _ _ _ _ _) rfl (tagC_one _ _ _ _ _) ?_
              generalize (World.setRow v6 v1.heap.size (tagC tk tl s tp tn)) = v7 at *
              refine hK.out _ _ (SU.of HTx7.out) (fun hHeld => ?_)
              clear hK K hOld
              try simp only [Act.put, List.setIfInBounds_toArray, List.set_cons_zero, List.set_cons_succ]
              refine wpAnyH_ready (rs := [9]) (by kernel_rfl) (by simp) (AllReadyH.cons (o := { dst := none, op := Op.store 37 (Operand.tmp 9) (Operand.tmp 25), type := 0, pos := "law.go:107", after := #[{ on := 7, ground := Ground.data }, { on := 5, ground := Ground.data }, { on := 8, ground := Ground.chain }, { on := 0, ground := Ground.phase }, { on := 1, ground := Ground.phase }, { on := 2, ground := Ground.phase }, { on := 3, ground := Ground.phase }, { on := 4, ground := Ground.phase }, { on := 5, ground := Ground.phase }, { on := 6, ground := Ground.phase }, { on := 7, ground := Ground.phase }, { on := 8, ground := Ground.phase }], guard := none }) rfl (fun K hK => ?_) AllReadyH.nil)
              have hOld := hide hHeld
              clear hHeld
              have HZ7x8 := hide (show (World.setRow v7 v5.heap.size (tagC tk' tl' s' tp' tn')).heap[v5.heap.size]? = some (.cells (tagC tk' tl' s' tp' tn') 37 (0, 0)) from setRow_heap _ _ _ _ _ _ HZ7x7.out)
              have HZ6x8 := hide ((setRow_other v7 v5.heap.size v1.heap.size (tagC tk' tl' s' tp' tn') (by omega)).trans HZ6x7.out)
              have HTx8 := hide (HTx7.out.row v5.heap.size (by omega) (by omega) (by omega) (by omega) (tagC tk' tl' s' tp' tn'))
              refine wp_store_row 37 (.tmp 9) (.tmp 25) rfl (v5.heap.size) rfl (tagC tk' tl' s' tp' tn') rfl (tagC 0 0 0 0 0) HZ7x7.out (tag_size _ _ _ _ _) rfl (tagC_one _ _ _ _ _) ?_
              generalize (World.setRow v7 v5.heap.size (tagC tk' tl' s' tp' tn')) = v8 at *
              refine hK.out _ _ (SU.of HTx8.out) (fun hHeld => ?_)
              clear hK K hOld
              try simp only [Act.put, List.setIfInBounds_toArray, List.set_cons_zero, List.set_cons_succ]
              refine wpAnyH_done (by kernel_rfl) ?_ _
              go_wp2_with fail
              go_meet
              exact ⟨_, _, rfl, rfl, HZ6x8.out, HZ7x8.out, HTx8.out.tab, HTx8.out.below⟩
            · have hOld := hide hHeld
              clear hHeld
              go_simp
              have HTx5 := hide (HTx4.out.alloc (Obj.cells #[.int .u8 0, .int .i64 0, .int .u64 0, .int .i64 0, .int .i64 0] 37))
              have HZ6x5 := hide ((heap_old _ (Obj.cells #[.int .u8 0, .int .i64 0, .int .u64 0, .int .i64 0, .int .i64 0] 37) _ (heap_lt HZ6x4.out)).trans HZ6x4.out)
              have HZ7x5 := hide (show (World.alloc v4 (Obj.cells #[.int .u8 0, .int .i64 0, .int .u64 0, .int .i64 0, .int .i64 0] 37)).heap[v4.heap.size]? = some (.cells (tagC 0 0 0 0 0) 37 (0, 0)) from heapNew v4 (Obj.cells #[.int .u8 0, .int .i64 0, .int .u64 0, .int .i64 0, .int .i64 0] 37))
              have hn7 : w.heap.size + 1 < v4.heap.size ∧ pb < v4.heap.size := ⟨heap_lt HTx4.out.two, tabAt_lt HTx4.out.tab⟩
              have hzz : v1.heap.size < v4.heap.size := heap_lt HZ6x4.out
              generalize World.alloc v4 (Obj.cells #[.int .u8 0, .int .i64 0, .int .u64 0, .int .i64 0, .int .i64 0] 37) = v5 at *
              (try go_wp2_with fail)
              refine hK.out _ _ (SU.of HTx5.out) (fun hHeld => ?_)
              clear hK K hOld
              try simp only [Act.put, List.setIfInBounds_toArray, List.set_cons_zero, List.set_cons_succ]
              refine wpAnyH_ready (rs := [5]) (by kernel_rfl) (by simp) (AllReadyH.cons (o := { dst := some 25, op := Op.call { callee := Callee.value (Operand.func 10), args := #[Operand.tmp 24], argTypes := #[24] }, type := 37, pos := "law.go:107", after := #[{ on := 4, ground := Ground.data }, { on := 4, ground := Ground.chain }], guard := none }) rfl (fun K hK => ?_) AllReadyH.nil)
              have hOld := hide hHeld
              clear hHeld
              go_simp
              refine (HOF2.out _).mono ?_
              rintro e v6 ⟨rfl, hb⟩
              have HTx6 := hide (HTx5.out.kept hb)
              have HZ6x6 := hide ((hb.block _ (heap_lt HZ6x5.out)).trans HZ6x5.out)
              have HZ7x6 := hide ((hb.block _ (heap_lt HZ7x5.out)).trans HZ7x5.out)
              clear hb
              (try go_wp2_with fail)
              refine hK.out _ _ (SU.of HTx6.out) (fun hHeld => ?_)
              clear hK K hOld
              try simp only [Act.put, List.setIfInBounds_toArray, List.set_cons_zero, List.set_cons_succ]
              refine wpAnyH_ready (rs := [8]) (by kernel_rfl) (by simp) (AllReadyH.cons (o := { dst := none, op := Op.store 37 (Operand.tmp 8) (Operand.tmp 22), type := 0, pos := "law.go:107", after := #[{ on := 6, ground := Ground.data }, { on := 2, ground := Ground.data }, { on := 5, ground := Ground.chain }, { on := 0, ground := Ground.phase }, { on := 1, ground := Ground.phase }, { on := 2, ground := Ground.phase }, { on := 3, ground := Ground.textOnly Departure.lateStores }, { on := 4, ground := Ground.textOnly Departure.lateStoresUnsure }, { on := 5, ground := Ground.textOnly Departure.lateStoresUnsure }, { on := 6, ground := Ground.phase }, { on := 7, ground := Ground.phase }], guard := none }) rfl (fun K hK => ?_) AllReadyH.nil)
              have hOld := hide hHeld
              clear hHeld
              have HZ6x7 := hide (show (World.setRow v6 v1.heap.size (tagC tk tl s tp tn)).heap[v1.heap.size]? = some (.cells (tagC tk tl s tp tn) 37 (0, 0)) from setRow_heap _ _ _ _ _ _ HZ6x6.out)
              have HZ7x7 := hide ((setRow_other v6 v1.heap.size v4.heap.size (tagC tk tl s tp tn) (by omega)).trans HZ7x6.out)
              have HTx7 := hide (HTx6.out.row v1.heap.size (by omega) (by omega) (by omega) (by omega) (tagC tk tl s tp tn))
              refine wp_store_row 37 (.tmp 8) (.tmp 22) rfl (v1.heap.size) rfl (tagC tk tl s tp tn) rfl (tagC 0 0 0 0 0) HZ6x6.out (tag_size _ _ _ _ _) rfl (tagC_one _ _ _ _ _) ?_
              generalize (World.setRow v6 v1.heap.size (tagC tk tl s tp tn)) = v7 at *
              refine hK.out _ _ (SU.of HTx7.out) (fun hHeld => ?_)
              clear hK K hOld
              try simp only [Act.put, List.setIfInBounds_toArray, List.set_cons_zero, List.set_cons_succ]
              refine wpAnyH_ready (rs := [9]) (by kernel_rfl) (by simp) (AllReadyH.cons (o := { dst := none, op := Op.store 37 (Operand.tmp 9) (Operand.tmp 25), type := 0, pos := "law.go:107", after := #[{ on := 7, ground := Ground.data }, { on := 5, ground := Ground.data }, { on := 8, ground := Ground.chain }, { on := 0, ground := Ground.phase }, { on := 1, ground := Ground.phase }, { on := 2, ground := Ground.phase }, { on := 3, ground := Ground.phase }, { on := 4, ground := Ground.phase }, { on := 5, ground := Ground.phase }, { on := 6, ground := Ground.phase }, { on := 7, ground := Ground.phase }, { on := 8, ground := Ground.phase }], guard := none }) rfl (fun K hK => ?_) AllReadyH.nil)
              have hOld := hide hHeld
              clear hHeld
              have HZ7x8 := hide (show (World.setRow v7 v4.heap.size (tagC tk' tl' s' tp' tn')).heap[v4.heap.size]? = some (.cells (tagC tk' tl' s' tp' tn') 37 (0, 0)) from setRow_heap _ _ _ _ _ _ HZ7x7.out)
              have HZ6x8 := hide ((setRow_other v7 v4.heap.size v1.heap.size (tagC tk' tl' s' tp' tn') (by omega)).trans HZ6x7.out)
              have HTx8 := hide (HTx7.out.row v4.heap.size (by omega) (by omega) (by omega) (by omega) (tagC tk' tl' s' tp' tn'))
              refine wp_store_row 37 (.tmp 9) (.tmp 25) rfl (v4.heap.size) rfl (tagC tk' tl' s' tp' tn') rfl (tagC 0 0 0 0 0) HZ7x7.out (tag_size _ _ _ _ _) rfl (tagC_one _ _ _ _ _) ?_
              generalize (World.setRow v7 v4.heap.size (tagC tk' tl' s' tp' tn')) = v8 at *
              refine hK.out _ _ (SU.of HTx8.out) (fun hHeld => ?_)
              clear hK K hOld
              try simp only [Act.put, List.setIfInBounds_toArray, List.set_cons_zero, List.set_cons_succ]
              refine wpAnyH_done (by kernel_rfl) ?_ _
              go_wp2_with fail
              go_meet
              exact ⟨_, _, rfl, rfl, HZ6x8.out, HZ7x8.out, HTx8.out.tab, HTx8.out.below⟩
          · have hOld := hide hHeld
            clear hHeld
            go_simp
            have HTx4 := hide (HTx3.out.alloc (Obj.cells #[.int .u8 0, .int .i64 0, .int .u64 0, .int .i64 0, .int .i64 0] 37))
            have HZ6x4 := hide ((heap_old _ (Obj.cells #[.int .u8 0, .int .i64 0, .int .u64 0, .int .i64 0, .int .i64 0] 37) _ (heap_lt HZ6x3.out)).trans HZ6x3.out)
            have HZ7x4 := hide (show (World.alloc v3 (Obj.cells #[.int .u8 0, .int .i64 0, .int .u64 0, .int .i64 0, .int .i64 0] 37)).heap[v3.heap.size]? = some (.cells (tagC 0 0 0 0 0) 37 (0, 0)) from heapNew v3 (Obj.cells #[.int .u8 0, .int .i64 0, .int .u64 0, .int .i64 0, .int .i64 0] 37))
            have hn7 : w.heap.size + 1 < v3.heap.size ∧ pb < v3.heap.size := ⟨heap_lt HTx3.out.two, tabAt_lt HTx3.out.tab⟩
            have hzz : v1.heap.size < v3.heap.size := heap_lt HZ6x3.out
            generalize World.alloc v3 (Obj.cells #[.int .u8 0, .int .i64 0, .int .u64 0, .int .i64 0, .int .i64 0] 37) = v4 at *
            (try go_wp2_with fail)
            refine hK.out _ _ (SU.of HTx4.out) (fun hHeld => ?_)
            clear hK K hOld
            try simp only [Act.put, List.setIfInBounds_toArray, List.set_cons_zero, List.set_cons_succ]
            refine wpAnyH_ready (rs := [4]) (by kernel_rfl) (by simp) (AllReadyH.cons (o := { dst := some 24, op := Op.call { callee := Callee.value (Operand.func 8), args := #[Operand.tmp 23], argTypes := #[24] }, type := 24, pos := "law.go:107", after := #[{ on := 3, ground := Ground.data }, { on := 2, ground := Ground.chain }], guard := none }) rfl (fun K hK => ?_) AllReadyH.nil)
            have hOld := hide hHeld
            clear hHeld
            go_simp
            refine (HTA2.out _).mono ?_
            rintro e v5 ⟨rfl, hb⟩
            have HTx5 := hide (HTx4.out.kept hb)
            have HZ6x5 := hide ((hb.block _ (heap_lt HZ6x4.out)).trans HZ6x4.out)
            have HZ7x5 := hide ((hb.block _ (heap_lt HZ7x4.out)).trans HZ7x4.out)
            clear hb
            (try go_wp2_with fail)
            refine hK.out _ _ (SU.of HTx5.out) (fun hHeld => ?_)
            clear hK K hOld
            try simp only [Act.put, List.setIfInBounds_toArray, List.set_cons_zero, List.set_cons_succ]
            refine wpAnyH_ready (rs := [5]) (by kernel_rfl) (by simp) (AllReadyH.cons (o := { dst := some 25, op := Op.call { callee := Callee.value (Operand.func 10), args := #[Operand.tmp 24], argTypes := #[24] }, type := 37, pos := "law.go:107", after := #[{ on := 4, ground := Ground.data }, { on := 4, ground := Ground.chain }], guard := none }) rfl (fun K hK => ?_) AllReadyH.nil)
            have hOld := hide hHeld
            clear hHeld
            go_simp
            refine (HOF2.out _).mono ?_
            rintro e v6 ⟨rfl, hb⟩
            have HTx6 := hide (HTx5.out.kept hb)
            have HZ6x6 := hide ((hb.block _ (heap_lt HZ6x5.out)).trans HZ6x5.out)
            have HZ7x6 := hide ((hb.block _ (heap_lt HZ7x5.out)).trans HZ7x5.out)
            clear hb
            (try go_wp2_with fail)
            refine hK.out _ _ (SU.of HTx6.out) (fun hHeld => ?_)
            clear hK K hOld
            try simp only [Act.put, List.setIfInBounds_toArray, List.set_cons_zero, List.set_cons_succ]
            refine wpAnyH_ready (rs := [8]) (by kernel_rfl) (by simp) (AllReadyH.cons (o := { dst := none, op := Op.store 37 (Operand.tmp 8) (Operand.tmp 22), type := 0, pos := "law.go:107", after := #[{ on := 6, ground := Ground.data }, { on := 2, ground := Ground.data }, { on := 5, ground := Ground.chain }, { on := 0, ground := Ground.phase }, { on := 1, ground := Ground.phase }, { on := 2, ground := Ground.phase }, { on := 3, ground := Ground.textOnly Departure.lateStores }, { on := 4, ground := Ground.textOnly Departure.lateStoresUnsure }, { on := 5, ground := Ground.textOnly Departure.lateStoresUnsure }, { on := 6, ground := Ground.phase }, { on := 7, ground := Ground.phase }], guard := none }) rfl (fun K hK => ?_) AllReadyH.nil)
            have hOld := hide hHeld
            clear hHeld
            have HZ6x7 := hide (show (World.setRow v6 v1.heap.size (tagC tk tl s tp tn)).heap[v1.heap.size]? = some (.cells (tagC tk tl s tp tn) 37 (0, 0)) from setRow_heap _ _ _ _ _ _ HZ6x6.out)
            have HZ7x7 := hide ((setRow_other v6 v1.heap.size v3.heap.size (tagC tk tl s tp tn) (by omega)).trans HZ7x6.out)
            have HTx7 := hide (HTx6.out.row v1.heap.size (by omega) (by omega) (by omega) (by omega) (tagC tk tl s tp tn))
            refine wp_store_row 37 (.tmp 8) (.tmp 22) rfl (v1.heap.size) rfl (tagC tk tl s tp tn) rfl (tagC 0 0 0 0 0) HZ6x6.out (tag_size _ _ _ _ _) rfl (tagC_one _ _ _ _ _) ?_
            generalize (World.setRow v6 v1.heap.size (tagC tk tl s tp tn)) = v7 at *
            refine hK.out _ _ (SU.of HTx7.out) (fun hHeld => ?_)
            clear hK K hOld
            try simp only [Act.put, List.setIfInBounds_toArray, List.set_cons_zero, List.set_cons_succ]
            refine wpAnyH_ready (rs := [9]) (by kernel_rfl) (by simp) (AllReadyH.cons (o := { dst := none, op := Op.store 37 (Operand.tmp 9) (Operand.tmp 25), type := 0, pos := "law.go:107", after := #[{ on := 7, ground := Ground.data }, { on := 5, ground := Ground.data }, { on := 8, ground := Ground.chain }, { on := 0, ground := Ground.phase }, { on := 1, ground := Ground.phase }, { on := 2, ground := Ground.phase }, { on := 3, ground := Ground.phase }, { on := 4, ground := Ground.phase }, { on := 5, ground := Ground.phase }, { on := 6, ground := Ground.phase }, { on := 7, ground := Ground.phase }, { on := 8, ground := Ground.phase }], guard := none }) rfl (fun K hK => ?_) AllReadyH.nil)
            have hOld := hide hHeld
            clear hHeld
            have HZ7x8 := hide (show (World.setRow v7 v3.heap.size (tagC tk' tl' s' tp' tn')).heap[v3.heap.size]? = some (.cells (tagC tk' tl' s' tp' tn') 37 (0, 0)) from setRow_heap _ _ _ _ _ _ HZ7x7.out)
            have HZ6x8 := hide ((setRow_other v7 v3.heap.size v1.heap.size (tagC tk' tl' s' tp' tn') (by omega)).trans HZ6x7.out)
            have HTx8 := hide (HTx7.out.row v3.heap.size (by omega) (by omega) (by omega) (by omega) (tagC tk' tl' s' tp' tn'))
            refine wp_store_row 37 (.tmp 9) (.tmp 25) rfl (v3.heap.size) rfl (tagC tk' tl' s' tp' tn') rfl (tagC 0 0 0 0 0) HZ7x7.out (tag_size _ _ _ _ _) rfl (tagC_one _ _ _ _ _) ?_
            generalize (World.setRow v7 v3.heap.size (tagC tk' tl' s' tp' tn')) = v8 at *
            refine hK.out _ _ (SU.of HTx8.out) (fun hHeld => ?_)
            clear hK K hOld
            try simp only [Act.put, List.setIfInBounds_toArray, List.set_cons_zero, List.set_cons_succ]
            refine wpAnyH_done (by kernel_rfl) ?_ _
            go_wp2_with fail
            go_meet
            exact ⟨_, _, rfl, rfl, HZ6x8.out, HZ7x8.out, HTx8.out.tab, HTx8.out.below⟩
        · have hOld := hide hHeld
          clear hHeld
          go_simp
          have HTx3 := hide (HTx2.out.alloc (Obj.cells #[.int .u8 0, .int .i64 0, .int .u64 0, .int .i64 0, .int .i64 0] 37))
          have HZ6x3 := hide ((heap_old _ (Obj.cells #[.int .u8 0, .int .i64 0, .int .u64 0, .int .i64 0, .int .i64 0] 37) _ (heap_lt HZ6x2.out)).trans HZ6x2.out)
          have HZ7x3 := hide (show (World.alloc v2 (Obj.cells #[.int .u8 0, .int .i64 0, .int .u64 0, .int .i64 0, .int .i64 0] 37)).heap[v2.heap.size]? = some (.cells (tagC 0 0 0 0 0) 37 (0, 0)) from heapNew v2 (Obj.cells #[.int .u8 0, .int .i64 0, .int .u64 0, .int .i64 0, .int .i64 0] 37))
          have hn7 : w.heap.size + 1 < v2.heap.size ∧ pb < v2.heap.size := ⟨heap_lt HTx2.out.two, tabAt_lt HTx2.out.tab⟩
          have hzz : v1.heap.size < v2.heap.size := heap_lt HZ6x2.out
          generalize World.alloc v2 (Obj.cells #[.int .u8 0, .int .i64 0, .int .u64 0, .int .i64 0, .int .i64 0] 37) = v3 at *
          (try go_wp2_with fail)
          refine hK.out _ _ (SU.of HTx3.out) (fun hHeld => ?_)
          clear hK K hOld
          try simp only [Act.put, List.setIfInBounds_toArray, List.set_cons_zero, List.set_cons_succ]
          refine wpAnyH_ready (rs := [2]) (by kernel_rfl) (by simp) (AllReadyH.cons (o := { dst := some 22, op := Op.call { callee := Callee.value (Operand.func 10), args := #[Operand.tmp 21], argTypes := #[24] }, type := 37, pos := "law.go:107", after := #[{ on := 1, ground := Ground.data }, { on := 1, ground := Ground.chain }], guard := none }) rfl (fun K hK => ?_) AllReadyH.nil)
          have hOld := hide hHeld
          clear hHeld
          go_simp
          refine (HOF.out _).mono ?_
          rintro e v4 ⟨rfl, hb⟩
          have HTx4 := hide (HTx3.out.kept hb)
          have HZ6x4 := hide ((hb.block _ (heap_lt HZ6x3.out)).trans HZ6x3.out)
          have HZ7x4 := hide ((hb.block _ (heap_lt HZ7x3.out)).trans HZ7x3.out)
          clear hb
          (try go_wp2_with fail)
          refine hK.out _ _ (SU.of HTx4.out) (fun hHeld => ?_)
          clear hK K hOld
          try simp only [Act.put, List.setIfInBounds_toArray, List.set_cons_zero, List.set_cons_succ]
          refine wpAnyH_ready (rs := [4]) (by kernel_rfl) (by simp) (AllReadyH.cons (o := { dst := some 24, op := Op.call { callee := Callee.value (Operand.func 8), args := #[Operand.tmp 23], argTypes := #[24] }, type := 24, pos := "law.go:107", after := #[{ on := 3, ground := Ground.data }, { on := 2, ground := Ground.chain }], guard := none }) rfl (fun K hK => ?_) AllReadyH.nil)
          have hOld := hide hHeld
          clear hHeld
          go_simp
          refine (HTA2.out _).mono ?_
          rintro e v5 ⟨rfl, hb⟩
          have HTx5 := hide (HTx4.out.kept hb)
          have HZ6x5 := hide ((hb.block _ (heap_lt HZ6x4.out)).trans HZ6x4.out)
          have HZ7x5 := hide ((hb.block _ (heap_lt HZ7x4.out)).trans HZ7x4.out)
          clear hb
          (try go_wp2_with fail)
          refine hK.out _ _ (SU.of HTx5.out) (fun hHeld => ?_)
          clear hK K hOld
          try simp only [Act.put, List.setIfInBounds_toArray, List.set_cons_zero, List.set_cons_succ]
          refine wpAnyH_ready (rs := [5]) (by kernel_rfl) (by simp) (AllReadyH.cons (o := { dst := some 25, op := Op.call { callee := Callee.value (Operand.func 10), args := #[Operand.tmp 24], argTypes := #[24] }, type := 37, pos := "law.go:107", after := #[{ on := 4, ground := Ground.data }, { on := 4, ground := Ground.chain }], guard := none }) rfl (fun K hK => ?_) AllReadyH.nil)
          have hOld := hide hHeld
          clear hHeld
          go_simp
          refine (HOF2.out _).mono ?_
          rintro e v6 ⟨rfl, hb⟩
          have HTx6 := hide (HTx5.out.kept hb)
          have HZ6x6 := hide ((hb.block _ (heap_lt HZ6x5.out)).trans HZ6x5.out)
          have HZ7x6 := hide ((hb.block _ (heap_lt HZ7x5.out)).trans HZ7x5.out)
          clear hb
          (try go_wp2_with fail)
          refine hK.out _ _ (SU.of HTx6.out) (fun hHeld => ?_)
          clear hK K hOld
          try simp only [Act.put, List.setIfInBounds_toArray, List.set_cons_zero, List.set_cons_succ]
          refine wpAnyH_ready (rs := [8]) (by kernel_rfl) (by simp) (AllReadyH.cons (o := { dst := none, op := Op.store 37 (Operand.tmp 8) (Operand.tmp 22), type := 0, pos := "law.go:107", after := #[{ on := 6, ground := Ground.data }, { on := 2, ground := Ground.data }, { on := 5, ground := Ground.chain }, { on := 0, ground := Ground.phase }, { on := 1, ground := Ground.phase }, { on := 2, ground := Ground.phase }, { on := 3, ground := Ground.textOnly Departure.lateStores }, { on := 4, ground := Ground.textOnly Departure.lateStoresUnsure }, { on := 5, ground := Ground.textOnly Departure.lateStoresUnsure }, { on := 6, ground := Ground.phase }, { on := 7, ground := Ground.phase }], guard := none }) rfl (fun K hK => ?_) AllReadyH.nil)
          have hOld := hide hHeld
          clear hHeld
          have HZ6x7 := hide (show (World.setRow v6 v1.heap.size (tagC tk tl s tp tn)).heap[v1.heap.size]? = some (.cells (tagC tk tl s tp tn) 37 (0, 0)) from setRow_heap _ _ _ _ _ _ HZ6x6.out)
          have HZ7x7 := hide ((setRow_other v6 v1.heap.size v2.heap.size (tagC tk tl s tp tn) (by omega)).trans HZ7x6.out)
          have HTx7 := hide (HTx6.out.row v1.heap.size (by omega) (by omega) (by omega) (by omega) (tagC tk tl s tp tn))
          refine wp_store_row 37 (.tmp 8) (.tmp 22) rfl (v1.heap.size) rfl (tagC tk tl s tp tn) rfl (tagC 0 0 0 0 0) HZ6x6.out (tag_size _ _ _ _ _) rfl (tagC_one _ _ _ _ _) ?_
          generalize (World.setRow v6 v1.heap.size (tagC tk tl s tp tn)) = v7 at *
          refine hK.out _ _ (SU.of HTx7.out) (fun hHeld => ?_)
          clear hK K hOld
          try simp only [Act.put, List.setIfInBounds_toArray, List.set_cons_zero, List.set_cons_succ]
          refine wpAnyH_ready (rs := [9]) (by kernel_rfl) (by simp) (AllReadyH.cons (o := { dst := none, op := Op.store 37 (Operand.tmp 9) (Operand.tmp 25), type := 0, pos := "law.go:107", after := #[{ on := 7, ground := Ground.data }, { on := 5, ground := Ground.data }, { on := 8, ground := Ground.chain }, { on := 0, ground := Ground.phase }, { on := 1, ground := Ground.phase }, { on := 2, ground := Ground.phase }, { on := 3, ground := Ground.phase }, { on := 4, ground := Ground.phase }, { on := 5, ground := Ground.phase }, { on := 6, ground := Ground.phase }, { on := 7, ground := Ground.phase }, { on := 8, ground := Ground.phase }], guard := none }) rfl (fun K hK => ?_) AllReadyH.nil)
          have hOld := hide hHeld
          clear hHeld
          have HZ7x8 := hide (show (World.setRow v7 v2.heap.size (tagC tk' tl' s' tp' tn')).heap[v2.heap.size]? = some (.cells (tagC tk' tl' s' tp' tn') 37 (0, 0)) from setRow_heap _ _ _ _ _ _ HZ7x7.out)
          have HZ6x8 := hide ((setRow_other v7 v2.heap.size v1.heap.size (tagC tk' tl' s' tp' tn') (by omega)).trans HZ6x7.out)
          have HTx8 := hide (HTx7.out.row v2.heap.size (by omega) (by omega) (by omega) (by omega) (tagC tk' tl' s' tp' tn'))
          refine wp_store_row 37 (.tmp 9) (.tmp 25) rfl (v2.heap.size) rfl (tagC tk' tl' s' tp' tn') rfl (tagC 0 0 0 0 0) HZ7x7.out (tag_size _ _ _ _ _) rfl (tagC_one _ _ _ _ _) ?_
          generalize (World.setRow v7 v2.heap.size (tagC tk' tl' s' tp' tn')) = v8 at *
          refine hK.out _ _ (SU.of HTx8.out) (fun hHeld => ?_)
          clear hK K hOld
          try simp only [Act.put, List.setIfInBounds_toArray, List.set_cons_zero, List.set_cons_succ]
          refine wpAnyH_done (by kernel_rfl) ?_ _
          go_wp2_with fail
          go_meet
          exact ⟨_, _, rfl, rfl, HZ6x8.out, HZ7x8.out, HTx8.out.tab, HTx8.out.below⟩
      · have hOld := hide hHeld
        clear hHeld
        go_simp
        have HTx2 := hide (HTx1.out.alloc (Obj.cells #[.int .u8 0, .int .i64 0, .int .u64 0, .int .i64 0, .int .i64 0] 37))
        have HZ7x2 := hide (show (World.alloc v1 (Obj.cells #[.int .u8 0, .int .i64 0, .int .u64 0, .int .i64 0, .int .i64 0] 37)).heap[v1.heap.size]? = some (.cells (tagC 0 0 0 0 0) 37 (0, 0)) from heapNew v1 (Obj.cells #[.int .u8 0, .int .i64 0, .int .u64 0, .int .i64 0, .int .i64 0] 37))
        have hn7 : w.heap.size + 1 < v1.heap.size ∧ pb < v1.heap.size := ⟨heap_lt HTx1.out.two, tabAt_lt HTx1.out.tab⟩
        generalize World.alloc v1 (Obj.cells #[.int .u8 0, .int .i64 0, .int .u64 0, .int .i64 0, .int .i64 0] 37) = v2 at *
        (try go_wp2_with fail)
        refine hK.out _ _ (SU.of HTx2.out) (fun hHeld => ?_)
        clear hK K hOld
        try simp only [Act.put, List.setIfInBounds_toArray, List.set_cons_zero, List.set_cons_succ]
        refine wpAnyH_ready (rs := [2, 6]) (by kernel_rfl) (by simp) (AllReadyH.cons (o := { dst := some 22, op := Op.call { callee := Callee.value (Operand.func 10), args := #[Operand.tmp 21], argTypes := #[24] }, type := 37, pos := "law.go:107", after := #[{ on := 1, ground := Ground.data }, { on := 1, ground := Ground.chain }], guard := none }) rfl (fun K hK => ?_) (AllReadyH.cons (o := { dst := some 8, op := Op.alloc 37, type := 0, pos := "law.go:107", after := #[], guard := none }) rfl (fun K hK => ?_) AllReadyH.nil))
        · have hOld := hide hHeld
          clear hHeld
          go_simp
          refine (HOF.out _).mono ?_
          rintro e v3 ⟨rfl, hb⟩
          have HTx3 := hide (HTx2.out.kept hb)
          have HZ7x3 := hide ((hb.block _ (heap_lt HZ7x2.out)).trans HZ7x2.out)
          clear hb
          (try go_wp2_with fail)
          refine hK.out _ _ (SU.of HTx3.out) (fun hHeld => ?_)
          clear hK K hOld
          try simp only [Act.put, List.setIfInBounds_toArray, List.set_cons_zero, List.set_cons_succ]
          refine wpAnyH_ready (rs := [4, 6]) (by kernel_rfl) (by simp) (AllReadyH.cons (o := { dst := some 24, op := Op.call { callee := Callee.value (Operand.func 8), args := #[Operand.tmp 23], argTypes := #[24] }, type := 24, pos := "law.go:107", after := #[{ on := 3, ground := Ground.data }, { on := 2, ground := Ground.chain }], guard := none }) rfl (fun K hK => ?_) (AllReadyH.cons (o := { dst := some 8, op := Op.alloc 37, type := 0, pos := "law.go:107", after := #[], guard := none }) rfl (fun K hK => ?_) AllReadyH.nil))
          · have hOld := hide hHeld
            clear hHeld
            go_simp
            refine (HTA2.out _).mono ?_
            rintro e v4 ⟨rfl, hb⟩
            have HTx4 := hide (HTx3.out.kept hb)
            have HZ7x4 := hide ((hb.block _ (heap_lt HZ7x3.out)).trans HZ7x3.out)
            clear hb
            (try go_wp2_with fail)
            refine hK.out _ _ (SU.of HTx4.out) (fun hHeld => ?_)
            clear hK K hOld
            try simp only [Act.put, List.setIfInBounds_toArray, List.set_cons_zero, List.set_cons_succ]
            refine wpAnyH_ready (rs := [5, 6]) (by kernel_rfl) (by simp) (AllReadyH.cons (o := { dst := some 25, op := Op.call { callee := Callee.value (Operand.func 10), args := #[Operand.tmp 24], argTypes := #[24] }, type := 37, pos := "law.go:107", after := #[{ on := 4, ground := Ground.data }, { on := 4, ground := Ground.chain }], guard := none }) rfl (fun K hK => ?_) (AllReadyH.cons (o := { dst := some 8, op := Op.alloc 37, type := 0, pos := "law.go:107", after := #[], guard := none }) rfl (fun K hK => ?_) AllReadyH.nil))
            · have hOld := hide hHeld
              clear hHeld
              go_simp
              refine (HOF2.out _).mono ?_
              rintro e v5 ⟨rfl, hb⟩
              have HTx5 := hide (HTx4.out.kept hb)
              have HZ7x5 := hide ((hb.block _ (heap_lt HZ7x4.out)).trans HZ7x4.out)
              clear hb
              (try go_wp2_with fail)
              refine hK.out _ _ (SU.of HTx5.out) (fun hHeld => ?_)
              clear hK K hOld
              try simp only [Act.put, List.setIfInBounds_toArray, List.set_cons_zero, List.set_cons_succ]
              refine wpAnyH_ready (rs := [6]) (by kernel_rfl) (by simp) (AllReadyH.cons (o := { dst := some 8, op := Op.alloc 37, type := 0, pos := "law.go:107", after := #[], guard := none }) rfl (fun K hK => ?_) AllReadyH.nil)
              have hOld := hide hHeld
              clear hHeld
              go_simp
              have HTx6 := hide (HTx5.out.alloc (Obj.cells #[.int .u8 0, .int .i64 0, .int .u64 0, .int .i64 0, .int .i64 0] 37))
              have HZ7x6 := hide ((heap_old _ (Obj.cells #[.int .u8 0, .int .i64 0, .int .u64 0, .int .i64 0, .int .i64 0] 37) _ (heap_lt HZ7x5.out)).trans HZ7x5.out)
              have HZ6x6 := hide (show (World.alloc v5 (Obj.cells #[.int .u8 0, .int .i64 0, .int .u64 0, .int .i64 0, .int .i64 0] 37)).heap[v5.heap.size]? = some (.cells (tagC 0 0 0 0 0) 37 (0, 0)) from heapNew v5 (Obj.cells #[.int .u8 0, .int .i64 0, .int .u64 0, .int .i64 0, .int .i64 0] 37))
              have hn6 : w.heap.size + 1 < v5.heap.size ∧ pb < v5.heap.size := ⟨heap_lt HTx5.out.two, tabAt_lt HTx5.out.tab⟩
              have hzz : v1.heap.size < v5.heap.size := heap_lt HZ7x5.out
              generalize World.alloc v5 (Obj.cells #[.int .u8 0, .int .i64 0, .int .u64 0, .int .i64 0, .int .i64 0] 37) = v6 at *
              (try go_wp2_with fail)
              refine hK.out _ _ (SU.of HTx6.out) (fun hHeld => ?_)
              clear hK K hOld
              try simp only [Act.put, List.setIfInBounds_toArray, List.set_cons_zero, List.set_cons_succ]
              refine wpAnyH_ready (rs := [8]) (by kernel_rfl) (by simp) (AllReadyH.cons (o := { dst := none, op := Op.store 37 (Operand.tmp 8) (Operand.tmp 22), type := 0, pos := "law.go:107", after := #[{ on := 6, ground := Ground.data }, { on := 2, ground := Ground.data }, { on := 5, ground := Ground.chain }, { on := 0, ground := Ground.phase }, { on := 1, ground := Ground.phase }, { on := 2, ground := Ground.phase }, { on := 3, ground := Ground.textOnly Departure.lateStores }, { on := 4, ground := Ground.textOnly Departure.lateStoresUnsure }, { on := 5, ground := Ground.textOnly Departure.lateStoresUnsure }, { on := 6, ground := Ground.phase }, { on := 7, ground := Ground.phase }], guard := none }) rfl (fun K hK => ?_) AllReadyH.nil)
              have hOld := hide hHeld
              clear hHeld
              have HZ6x7 := hide (show (World.setRow v6 v5.heap.size (tagC tk tl s tp tn)).heap[v5.heap.size]? = some (.cells (tagC tk tl s tp tn) 37 (0, 0)) from setRow_heap _ _ _ _ _ _ HZ6x6.out)
              have HZ7x7 := hide ((setRow_other v6 v5.heap.size v1.heap.size (tagC tk tl s tp tn) (by omega)).trans HZ7x6.out)
              have HTx7 := hide (HTx6.out.row v5.heap.size (by omega) (by omega) (by omega) (by omega) (tagC tk tl s tp tn))
              refine wp_store_row 37 (.tmp 8) (.tmp 22) rfl (v5.heap.size) rfl (tagC tk tl s tp tn) rfl (tagC 0 0 0 0 0) HZ6x6.out (tag_size _ _ _ _ _) rfl (tagC_one _ _ _ _ _) ?_
              generalize (World.setRow v6 v5.heap.size (tagC tk tl s tp tn)) = v7 at *
              refine hK.out _ _ (SU.of HTx7.out) (fun hHeld => ?_)
              clear hK K hOld
              try simp only [Act.put, List.setIfInBounds_toArray, List.set_cons_zero, List.set_cons_succ]
              refine wpAnyH_ready (rs := [9]) (by kernel_rfl) (by simp) (AllReadyH.cons (o := { dst := none, op := Op.store 37 (Operand.tmp 9) (Operand.tmp 25), type := 0, pos := "law.go:107", after := #[{ on := 7, ground := Ground.data }, { on := 5, ground := Ground.data }, { on := 8, ground := Ground.chain }, { on := 0, ground := Ground.phase }, { on := 1, ground := Ground.phase }, { on := 2, ground := Ground.phase }, { on := 3, ground := Ground.phase }, { on := 4, ground := Ground.phase }, { on := 5, ground := Ground.phase }, { on := 6, ground := Ground.phase }, { on := 7, ground := Ground.phase }, { on := 8, ground := Ground.phase }], guard := none }) rfl (fun K hK => ?_) AllReadyH.nil)
              have hOld := hide hHeld
              clear hHeld
              have HZ7x8 := hide (show (World.setRow v7 v1.heap.size (tagC tk' tl' s' tp' tn')).heap[v1.heap.size]? = some (.cells (tagC tk' tl' s' tp' tn') 37 (0, 0)) from setRow_heap _ _ _ _ _ _ HZ7x7.out)
              have HZ6x8 := hide ((setRow_other v7 v1.heap.size v5.heap.size (tagC tk' tl' s' tp' tn') (by omega)).trans HZ6x7.out)
              have HTx8 := hide (HTx7.out.row v1.heap.size (by omega) (by omega) (by omega) (by omega) (tagC tk' tl' s' tp' tn'))
              refine wp_store_row 37 (.tmp 9) (.tmp 25) rfl (v1.heap.size) rfl (tagC tk' tl' s' tp' tn') rfl (tagC 0 0 0 0 0) HZ7x7.out (tag_size _ _ _ _ _) rfl (tagC_one _ _ _ _ _) ?_
              generalize (World.setRow v7 v1.heap.size (tagC tk' tl' s' tp' tn')) = v8 at *
              refine hK.out _ _ (SU.of HTx8.out) (fun hHeld => ?_)
              clear hK K hOld
              try simp only [Act.put, List.setIfInBounds_toArray, List.set_cons_zero, List.set_cons_succ]
              refine wpAnyH_done (by kernel_rfl) ?_ _
              go_wp2_with fail
              go_meet
              exact ⟨_, _, rfl, rfl, HZ6x8.out, HZ7x8.out, HTx8.out.tab, HTx8.out.below⟩
            · have hOld := hide hHeld
              clear hHeld
              go_simp
              have HTx5 := hide (HTx4.out.alloc (Obj.cells #[.int .u8 0, .int .i64 0, .int .u64 0, .int .i64 0, .int .i64 0] 37))
              have HZ7x5 := hide ((heap_old _ (Obj.cells #[.int .u8 0, .int .i64 0, .int .u64 0, .int .i64 0, .int .i64 0] 37) _ (heap_lt HZ7x4.out)).trans HZ7x4.out)
              have HZ6x5 := hide (show (World.alloc v4 (Obj.cells #[.int .u8 0, .int .i64 0, .int .u64 0, .int .i64 0, .int .i64 0] 37)).heap[v4.heap.size]? = some (.cells (tagC 0 0 0 0 0) 37 (0, 0)) from heapNew v4 (Obj.cells #[.int .u8 0, .int .i64 0, .int .u64 0, .int .i64 0, .int .i64 0] 37))
              have hn6 : w.heap.size + 1 < v4.heap.size ∧ pb < v4.heap.size := ⟨heap_lt HTx4.out.two, tabAt_lt HTx4.out.tab⟩
              have hzz : v1.heap.size < v4.heap.size := heap_lt HZ7x4.out
              generalize World.alloc v4 (Obj.cells #[.int .u8 0, .int .i64 0, .int .u64 0, .int .i64 0, .int .i64 0] 37) = v5 at *
              (try go_wp2_with fail)
              refine hK.out _ _ (SU.of HTx5.out) (fun hHeld => ?_)
              clear hK K hOld
              try simp only [Act.put, List.setIfInBounds_toArray, List.set_cons_zero, List.set_cons_succ]
              refine wpAnyH_ready (rs := [5]) (by kernel_rfl) (by simp) (AllReadyH.cons (o := { dst := some 25, op := Op.call { callee := Callee.value (Operand.func 10), args := #[Operand.tmp 24], argTypes := #[24] }, type := 37, pos := "law.go:107", after := #[{ on := 4, ground := Ground.data }, { on := 4, ground := Ground.chain }], guard := none }) rfl (fun K hK => ?_) AllReadyH.nil)
              have hOld := hide hHeld
              clear hHeld
              go_simp
              refine (HOF2.out _).mono ?_
              rintro e v6 ⟨rfl, hb⟩
              have HTx6 := hide (HTx5.out.kept hb)
              have HZ6x6 := hide ((hb.block _ (heap_lt HZ6x5.out)).trans HZ6x5.out)
              have HZ7x6 := hide ((hb.block _ (heap_lt HZ7x5.out)).trans HZ7x5.out)
              clear hb
              (try go_wp2_with fail)
              refine hK.out _ _ (SU.of HTx6.out) (fun hHeld => ?_)
              clear hK K hOld
              try simp only [Act.put, List.setIfInBounds_toArray, List.set_cons_zero, List.set_cons_succ]
              refine wpAnyH_ready (rs := [8]) (by kernel_rfl) (by simp) (AllReadyH.cons (o := { dst := none, op := Op.store 37 (Operand.tmp 8) (Operand.tmp 22), type := 0, pos := "law.go:107", after := #[{ on := 6, ground := Ground.data }, { on := 2, ground := Ground.data }, { on := 5, ground := Ground.chain }, { on := 0, ground := Ground.phase }, { on := 1, ground := Ground.phase }, { on := 2, ground := Ground.phase }, { on := 3, ground := Ground.textOnly Departure.lateStores }, { on := 4, ground := Ground.textOnly Departure.lateStoresUnsure }, { on := 5, ground := Ground.textOnly Departure.lateStoresUnsure }, { on := 6, ground := Ground.phase }, { on := 7, ground := Ground.phase }], guard := none }) rfl (fun K hK => ?_) AllReadyH.nil)
              have hOld := hide hHeld
              clear hHeld
              have HZ6x7 := hide (show (World.setRow v6 v4.heap.size (tagC tk tl s tp tn)).heap[v4.heap.size]? = some (.cells (tagC tk tl s tp tn) 37 (0, 0)) from setRow_heap _ _ _ _ _ _ HZ6x6.out)
              have HZ7x7 := hide ((setRow_other v6 v4.heap.size v1.heap.size (tagC tk tl s tp tn) (by omega)).trans HZ7x6.out)
              have HTx7 := hide (HTx6.out.row v4.heap.size (by omega) (by omega) (by omega) (by omega) (tagC tk tl s tp tn))
              refine wp_store_row 37 (.tmp 8) (.tmp 22) rfl (v4.heap.size) rfl (tagC tk tl s tp tn) rfl (tagC 0 0 0 0 0) HZ6x6.out (tag_size _ _ _ _ _) rfl (tagC_one _ _ _ _ _) ?_
              generalize (World.setRow v6 v4.heap.size (tagC tk tl s tp tn)) = v7 at *
              refine hK.out _ _ (SU.of HTx7.out) (fun hHeld => ?_)
              clear hK K hOld
              try simp only [Act.put, List.setIfInBounds_toArray, List.set_cons_zero, List.set_cons_succ]
              refine wpAnyH_ready (rs := [9]) (by kernel_rfl) (by simp) (AllReadyH.cons (o := { dst := none, op := Op.store 37 (Operand.tmp 9) (Operand.tmp 25), type := 0, pos := "law.go:107", after := #[{ on := 7, ground := Ground.data }, { on := 5, ground := Ground.data }, { on := 8, ground := Ground.chain }, { on := 0, ground := Ground.phase }, { on := 1, ground := Ground.phase }, { on := 2, ground := Ground.phase }, { on := 3, ground := Ground.phase }, { on := 4, ground := Ground.phase }, { on := 5, ground := Ground.phase }, { on := 6, ground := Ground.phase }, { on := 7, ground := Ground.phase }, { on := 8, ground := Ground.phase }], guard := none }) rfl (fun K hK => ?_) AllReadyH.nil)
              have hOld := hide hHeld
              clear hHeld
              have HZ7x8 := hide (show (World.setRow v7 v1.heap.size (tagC tk' tl' s' tp' tn')).heap[v1.heap.size]? = some (.cells (tagC tk' tl' s' tp' tn') 37 (0, 0)) from setRow_heap _ _ _ _ _ _ HZ7x7.out)
              have HZ6x8 := hide ((setRow_other v7 v1.heap.size v4.heap.size (tagC tk' tl' s' tp' tn') (by omega)).trans HZ6x7.out)
              have HTx8 := hide (HTx7.out.row v1.heap.size (by omega) (by omega) (by omega) (by omega) (tagC tk' tl' s' tp' tn'))
              refine wp_store_row 37 (.tmp 9) (.tmp 25) rfl (v1.heap.size) rfl (tagC tk' tl' s' tp' tn') rfl (tagC 0 0 0 0 0) HZ7x7.out (tag_size _ _ _ _ _) rfl (tagC_one _ _ _ _ _) ?_
              generalize (World.setRow v7 v1.heap.size (tagC tk' tl' s' tp' tn')) = v8 at *
              refine hK.out _ _ (SU.of HTx8.out) (fun hHeld => ?_)
              clear hK K hOld
              try simp only [Act.put, List.setIfInBounds_toArray, List.set_cons_zero, List.set_cons_succ]
              refine wpAnyH_done (by kernel_rfl) ?_ _
              go_wp2_with fail
              go_meet
              exact ⟨_, _, rfl, rfl, HZ6x8.out, HZ7x8.out, HTx8.out.tab, HTx8.out.below⟩
          · have hOld := hide hHeld
            clear hHeld
            go_simp
            have HTx4 := hide (HTx3.out.alloc (Obj.cells #[.int .u8 0, .int .i64 0, .int .u64 0, .int .i64 0, .int .i64 0] 37))
            have HZ7x4 := hide ((heap_old _ (Obj.cells #[.int .u8 0, .int .i64 0, .int .u64 0, .int .i64 0, .int .i64 0] 37) _ (heap_lt HZ7x3.out)).trans HZ7x3.out)
            have HZ6x4 := hide (show (World.alloc v3 (Obj.cells #[.int .u8 0, .int .i64 0, .int .u64 0, .int .i64 0, .int .i64 0] 37)).heap[v3.heap.size]? = some (.cells (tagC 0 0 0 0 0) 37 (0, 0)) from heapNew v3 (Obj.cells #[.int .u8 0, .int .i64 0, .int .u64 0, .int .i64 0, .int .i64 0] 37))
            have hn6 : w.heap.size + 1 < v3.heap.size ∧ pb < v3.heap.size := ⟨heap_lt HTx3.out.two, tabAt_lt HTx3.out.tab⟩
            have hzz : v1.heap.size < v3.heap.size := heap_lt HZ7x3.out
            generalize World.alloc v3 (Obj.cells #[.int .u8 0, .int .i64 0, .int .u64 0, .int .i64 0, .int .i64 0] 37) = v4 at *
            (try go_wp2_with fail)
            refine hK.out _ _ (SU.of HTx4.out) (fun hHeld => ?_)
            clear hK K hOld
            try simp only [Act.put, List.setIfInBounds_toArray, List.set_cons_zero, List.set_cons_succ]
            refine wpAnyH_ready (rs := [4]) (by kernel_rfl) (by simp) (AllReadyH.cons (o := { dst := some 24, op := Op.call { callee := Callee.value (Operand.func 8), args := #[Operand.tmp 23], argTypes := #[24] }, type := 24, pos := "law.go:107", after := #[{ on := 3, ground := Ground.data }, { on := 2, ground := Ground.chain }], guard := none }) rfl (fun K hK => ?_) AllReadyH.nil)
            have hOld := hide hHeld
            clear hHeld
            go_simp
            refine (HTA2.out _).mono ?_
            rintro e v5 ⟨rfl, hb⟩
            have HTx5 := hide (HTx4.out.kept hb)
            have HZ6x5 := hide ((hb.block _ (heap_lt HZ6x4.out)).trans HZ6x4.out)
            have HZ7x5 := hide ((hb.block _ (heap_lt HZ7x4.out)).trans HZ7x4.out)
            clear hb
            (try go_wp2_with fail)
            refine hK.out _ _ (SU.of HTx5.out) (fun hHeld => ?_)
            clear hK K hOld
            try simp only [Act.put, List.setIfInBounds_toArray, List.set_cons_zero, List.set_cons_succ]
            refine wpAnyH_ready (rs := [5]) (by kernel_rfl) (by simp) (AllReadyH.cons (o := { dst := some 25, op := Op.call { callee := Callee.value (Operand.func 10), args := #[Operand.tmp 24], argTypes := #[24] }, type := 37, pos := "law.go:107", after := #[{ on := 4, ground := Ground.data }, { on := 4, ground := Ground.chain }], guard := none }) rfl (fun K hK => ?_) AllReadyH.nil)
            have hOld := hide hHeld
            clear hHeld
            go_simp
            refine (HOF2.out _).mono ?_
            rintro e v6 ⟨rfl, hb⟩
            have HTx6 := hide (HTx5.out.kept hb)
            have HZ6x6 := hide ((hb.block _ (heap_lt HZ6x5.out)).trans HZ6x5.out)
            have HZ7x6 := hide ((hb.block _ (heap_lt HZ7x5.out)).trans HZ7x5.out)
            clear hb
            (try go_wp2_with fail)
            refine hK.out _ _ (SU.of HTx6.out) (fun hHeld => ?_)
            clear hK K hOld
            try simp only [Act.put, List.setIfInBounds_toArray, List.set_cons_zero, List.set_cons_succ]
            refine wpAnyH_ready (rs := [8]) (by kernel_rfl) (by simp) (AllReadyH.cons (o := { dst := none, op := Op.store 37 (Operand.tmp 8) (Operand.tmp 22), type := 0, pos := "law.go:107", after := #[{ on := 6, ground := Ground.data }, { on := 2, ground := Ground.data }, { on := 5, ground := Ground.chain }, { on := 0, ground := Ground.phase }, { on := 1, ground := Ground.phase }, { on := 2, ground := Ground.phase }, { on := 3, ground := Ground.textOnly Departure.lateStores }, { on := 4, ground := Ground.textOnly Departure.lateStoresUnsure }, { on := 5, ground := Ground.textOnly Departure.lateStoresUnsure }, { on := 6, ground := Ground.phase }, { on := 7, ground := Ground.phase }], guard := none }) rfl (fun K hK => ?_) AllReadyH.nil)
            have hOld := hide hHeld
            clear hHeld
            have HZ6x7 := hide (show (World.setRow v6 v3.heap.size (tagC tk tl s tp tn)).heap[v3.heap.size]? = some (.cells (tagC tk tl s tp tn) 37 (0, 0)) from setRow_heap _ _ _ _ _ _ HZ6x6.out)
            have HZ7x7 := hide ((setRow_other v6 v3.heap.size v1.heap.size (tagC tk tl s tp tn) (by omega)).trans HZ7x6.out)
            have HTx7 := hide (HTx6.out.row v3.heap.size (by omega) (by omega) (by omega) (by omega) (tagC tk tl s tp tn))
            refine wp_store_row 37 (.tmp 8) (.tmp 22) rfl (v3.heap.size) rfl (tagC tk tl s tp tn) rfl (tagC 0 0 0 0 0) HZ6x6.out (tag_size _ _ _ _ _) rfl (tagC_one _ _ _ _ _) ?_
            generalize (World.setRow v6 v3.heap.size (tagC tk tl s tp tn)) = v7 at *
            refine hK.out _ _ (SU.of HTx7.out) (fun hHeld => ?_)
            clear hK K hOld
            try simp only [Act.put, List.setIfInBounds_toArray, List.set_cons_zero, List.set_cons_succ]
            refine wpAnyH_ready (rs := [9]) (by kernel_rfl) (by simp) (AllReadyH.cons (o := { dst := none, op := Op.store 37 (Operand.tmp 9) (Operand.tmp 25), type := 0, pos := "law.go:107", after := #[{ on := 7, ground := Ground.data }, { on := 5, ground := Ground.data }, { on := 8, ground := Ground.chain }, { on := 0, ground := Ground.phase }, { on := 1, ground := Ground.phase }, { on := 2, ground := Ground.phase }, { on := 3, ground := Ground.phase }, { on := 4, ground := Ground.phase }, { on := 5, ground := Ground.phase }, { on := 6, ground := Ground.phase }, { on := 7, ground := Ground.phase }, { on := 8, ground := Ground.phase }], guard := none }) rfl (fun K hK => ?_) AllReadyH.nil)
            have hOld := hide hHeld
            clear hHeld
            have HZ7x8 := hide (show (World.setRow v7 v1.heap.size (tagC tk' tl' s' tp' tn')).heap[v1.heap.size]? = some (.cells (tagC tk' tl' s' tp' tn') 37 (0, 0)) from setRow_heap _ _ _ _ _ _ HZ7x7.out)
            have HZ6x8 := hide ((setRow_other v7 v1.heap.size v3.heap.size (tagC tk' tl' s' tp' tn') (by omega)).trans HZ6x7.out)
            have HTx8 := hide (HTx7.out.row v1.heap.size (by omega) (by omega) (by omega) (by omega) (tagC tk' tl' s' tp' tn'))
            refine wp_store_row 37 (.tmp 9) (.tmp 25) rfl (v1.heap.size) rfl (tagC tk' tl' s' tp' tn') rfl (tagC 0 0 0 0 0) HZ7x7.out (tag_size _ _ _ _ _) rfl (tagC_one _ _ _ _ _) ?_
            generalize (World.setRow v7 v1.heap.size (tagC tk' tl' s' tp' tn')) = v8 at *
            refine hK.out _ _ (SU.of HTx8.out) (fun hHeld => ?_)
            clear hK K hOld
            try simp only [Act.put, List.setIfInBounds_toArray, List.set_cons_zero, List.set_cons_succ]
            refine wpAnyH_done (by kernel_rfl) ?_ _
            go_wp2_with fail
            go_meet
            exact ⟨_, _, rfl, rfl, HZ6x8.out, HZ7x8.out, HTx8.out.tab, HTx8.out.below⟩
        · have hOld := hide hHeld
          clear hHeld
          go_simp
          have HTx3 := hide (HTx2.out.alloc (Obj.cells #[.int .u8 0, .int .i64 0, .int .u64 0, .int .i64 0, .int .i64 0] 37))
          have HZ7x3 := hide ((heap_old _ (Obj.cells #[.int .u8 0, .int .i64 0, .int .u64 0, .int .i64 0, .int .i64 0] 37) _ (heap_lt HZ7x2.out)).trans HZ7x2.out)
          have HZ6x3 := hide (show (World.alloc v2 (Obj.cells #[.int .u8 0, .int .i64 0, .int .u64 0, .int .i64 0, .int .i64 0] 37)).heap[v2.heap.size]? = some (.cells (tagC 0 0 0 0 0) 37 (0, 0)) from heapNew v2 (Obj.cells #[.int .u8 0, .int .i64 0, .int .u64 0, .int .i64 0, .int .i64 0] 37))
          have hn6 : w.heap.size + 1 < v2.heap.size ∧ pb < v2.heap.size := ⟨heap_lt HTx2.out.two, tabAt_lt HTx2.out.tab⟩
          have hzz : v1.heap.size < v2.heap.size := heap_lt HZ7x2.out
          generalize World.alloc v2 (Obj.cells #[.int .u8 0, .int .i64 0, .int .u64 0, .int .i64 0, .int .i64 0] 37) = v3 at *
          (try go_wp2_with fail)
          refine hK.out _ _ (SU.of HTx3.out) (fun hHeld => ?_)
          clear hK K hOld
          try simp only [Act.put, List.setIfInBounds_toArray, List.set_cons_zero, List.set_cons_succ]
          refine wpAnyH_ready (rs := [2]) (by kernel_rfl) (by simp) (AllReadyH.cons (o := { dst := some 22, op := Op.call { callee := Callee.value (Operand.func 10), args := #[Operand.tmp 21], argTypes := #[24] }, type := 37, pos := "law.go:107", after := #[{ on := 1, ground := Ground.data }, { on := 1, ground := Ground.chain }], guard := none }) rfl (fun K hK => ?_) AllReadyH.nil)
          have hOld := hide hHeld
          clear hHeld
          go_simp
          refine (HOF.out _).mono ?_
          rintro e v4 ⟨rfl, hb⟩
          have HTx4 := hide (HTx3.out.kept hb)
          have HZ6x4 := hide ((hb.block _ (heap_lt HZ6x3.out)).trans HZ6x3.out)
          have HZ7x4 := hide ((hb.block _ (heap_lt HZ7x3.out)).trans HZ7x3.out)
          clear hb
          (try go_wp2_with fail)
          refine hK.out _ _ (SU.of HTx4.out) (fun hHeld => ?_)
          clear hK K hOld
          try simp only [Act.put, List.setIfInBounds_toArray, List.set_cons_zero, List.set_cons_succ]
          refine wpAnyH_ready (rs := [4]) (by kernel_rfl) (by simp) (AllReadyH.cons (o := { dst := some 24, op := Op.call { callee := Callee.value (Operand.func 8), args := #[Operand.tmp 23], argTypes := #[24] }, type := 24, pos := "law.go:107", after := #[{ on := 3, ground := Ground.data }, { on := 2, ground := Ground.chain }], guard := none }) rfl (fun K hK => ?_) AllReadyH.nil)
          have hOld := hide hHeld
          clear hHeld
          go_simp
          refine (HTA2.out _).mono ?_
          rintro e v5 ⟨rfl, hb⟩
          have HTx5 := hide (HTx4.out.kept hb)
          have HZ6x5 := hide ((hb.block _ (heap_lt HZ6x4.out)).trans HZ6x4.out)
          have HZ7x5 := hide ((hb.block _ (heap_lt HZ7x4.out)).trans HZ7x4.out)
          clear hb
          (try go_wp2_with fail)
          refine hK.out _ _ (SU.of HTx5.out) (fun hHeld => ?_)
          clear hK K hOld
          try simp only [Act.put, List.setIfInBounds_toArray, List.set_cons_zero, List.set_cons_succ]
          refine wpAnyH_ready (rs := [5]) (by kernel_rfl) (by simp) (AllReadyH.cons (o := { dst := some 25, op := Op.call { callee := Callee.value (Operand.func 10), args := #[Operand.tmp 24], argTypes := #[24] }, type := 37, pos := "law.go:107", after := #[{ on := 4, ground := Ground.data }, { on := 4, ground := Ground.chain }], guard := none }) rfl (fun K hK => ?_) AllReadyH.nil)
          have hOld := hide hHeld
          clear hHeld
          go_simp
          refine (HOF2.out _).mono ?_
          rintro e v6 ⟨rfl, hb⟩
          have HTx6 := hide (HTx5.out.kept hb)
          have HZ6x6 := hide ((hb.block _ (heap_lt HZ6x5.out)).trans HZ6x5.out)
          have HZ7x6 := hide ((hb.block _ (heap_lt HZ7x5.out)).trans HZ7x5.out)
          clear hb
          (try go_wp2_with fail)
          refine hK.out _ _ (SU.of HTx6.out) (fun hHeld => ?_)
          clear hK K hOld
          try simp only [Act.put, List.setIfInBounds_toArray, List.set_cons_zero, List.set_cons_succ]
          refine wpAnyH_ready (rs := [8]) (by kernel_rfl) (by simp) (AllReadyH.cons (o := { dst := none, op := Op.store 37 (Operand.tmp 8) (Operand.tmp 22), type := 0, pos := "law.go:107", after := #[{ on := 6, ground := Ground.data }, { on := 2, ground := Ground.data }, { on := 5, ground := Ground.chain }, { on := 0, ground := Ground.phase }, { on := 1, ground := Ground.phase }, { on := 2, ground := Ground.phase }, { on := 3, ground := Ground.textOnly Departure.lateStores }, { on := 4, ground := Ground.textOnly Departure.lateStoresUnsure }, { on := 5, ground := Ground.textOnly Departure.lateStoresUnsure }, { on := 6, ground := Ground.phase }, { on := 7, ground := Ground.phase }], guard := none }) rfl (fun K hK => ?_) AllReadyH.nil)
          have hOld := hide hHeld
          clear hHeld
          have HZ6x7 := hide (show (World.setRow v6 v2.heap.size (tagC tk tl s tp tn)).heap[v2.heap.size]? = some (.cells (tagC tk tl s tp tn) 37 (0, 0)) from setRow_heap _ _ _ _ _ _ HZ6x6.out)
          have HZ7x7 := hide ((setRow_other v6 v2.heap.size v1.heap.size (tagC tk tl s tp tn) (by omega)).trans HZ7x6.out)
          have HTx7 := hide (HTx6.out.row v2.heap.size (by omega) (by omega) (by omega) (by omega) (tagC tk tl s tp tn))
          refine wp_store_row 37 (.tmp 8) (.tmp 22) rfl (v2.heap.size) rfl (tagC tk tl s tp tn) rfl (tagC 0 0 0 0 0) HZ6x6.out (tag_size _ _ _ _ _) rfl (tagC_one _ _ _ _ _) ?_
          generalize (World.setRow v6 v2.heap.size (tagC tk tl s tp tn)) = v7 at *
          refine hK.out _ _ (SU.of HTx7.out) (fun hHeld => ?_)
          clear hK K hOld
          try simp only [Act.put, List.setIfInBounds_toArray, List.set_cons_zero, List.set_cons_succ]
          refine wpAnyH_ready (rs := [9]) (by kernel_rfl) (by simp) (AllReadyH.cons (o := { dst := none, op := Op.store 37 (Operand.tmp 9) (Operand.tmp 25), type := 0, pos := "law.go:107", after := #[{ on := 7, ground := Ground.data }, { on := 5, ground := Ground.data }, { on := 8, ground := Ground.chain }, { on := 0, ground := Ground.phase }, { on := 1, ground := Ground.phase }, { on := 2, ground := Ground.phase }, { on := 3, ground := Ground.phase }, { on := 4, ground := Ground.phase }, { on := 5, ground := Ground.phase }, { on := 6, ground := Ground.phase }, { on := 7, ground := Ground.phase }, { on := 8, ground := Ground.phase }], guard := none }) rfl (fun K hK => ?_) AllReadyH.nil)
          have hOld := hide hHeld
          clear hHeld
          have HZ7x8 := hide (show (World.setRow v7 v1.heap.size (tagC tk' tl' s' tp' tn')).heap[v1.heap.size]? = some (.cells (tagC tk' tl' s' tp' tn') 37 (0, 0)) from setRow_heap _ _ _ _ _ _ HZ7x7.out)
          have HZ6x8 := hide ((setRow_other v7 v1.heap.size v2.heap.size (tagC tk' tl' s' tp' tn') (by omega)).trans HZ6x7.out)
          have HTx8 := hide (HTx7.out.row v1.heap.size (by omega) (by omega) (by omega) (by omega) (tagC tk' tl' s' tp' tn'))
          refine wp_store_row 37 (.tmp 9) (.tmp 25) rfl (v1.heap.size) rfl (tagC tk' tl' s' tp' tn') rfl (tagC 0 0 0 0 0) HZ7x7.out (tag_size _ _ _ _ _) rfl (tagC_one _ _ _ _ _) ?_
          generalize (World.setRow v7 v1.heap.size (tagC tk' tl' s' tp' tn')) = v8 at *
          refine hK.out _ _ (SU.of HTx8.out) (fun hHeld => ?_)
          clear hK K hOld
          try simp only [Act.put, List.setIfInBounds_toArray, List.set_cons_zero, List.set_cons_succ]
          refine wpAnyH_done (by kernel_rfl) ?_ _
          go_wp2_with fail
          go_meet
          exact ⟨_, _, rfl, rfl, HZ6x8.out, HZ7x8.out, HTx8.out.tab, HTx8.out.below⟩
    · have hOld := hide hHeld
      clear hHeld
      go_simp
      have HTx1 := hide (HT3.out.alloc (Obj.cells #[.int .u8 0, .int .i64 0, .int .u64 0, .int .i64 0, .int .i64 0] 37))
      have HZ6x1 := hide (show (World.alloc v0 (Obj.cells #[.int .u8 0, .int .i64 0, .int .u64 0, .int .i64 0, .int .i64 0] 37)).heap[v0.heap.size]? = some (.cells (tagC 0 0 0 0 0) 37 (0, 0)) from heapNew v0 (Obj.cells #[.int .u8 0, .int .i64 0, .int .u64 0, .int .i64 0, .int .i64 0] 37))
      have hn6 : w.heap.size + 1 < v0.heap.size ∧ pb < v0.heap.size := ⟨heap_lt HT3.out.two, tabAt_lt HT3.out.tab⟩
      generalize World.alloc v0 (Obj.cells #[.int .u8 0, .int .i64 0, .int .u64 0, .int .i64 0, .int .i64 0] 37) = v1 at *
      (try go_wp2_with fail)
      refine hK.out _ _ (SU.of HTx1.out) (fun hHeld => ?_)
      clear hK K hOld
      try simp only [Act.put, List.setIfInBounds_toArray, List.set_cons_zero, List.set_cons_succ]
      refine wpAnyH_ready (rs := [1, 7]) (by kernel_rfl) (by simp) (AllReadyH.cons (o := { dst := some 21, op := Op.call { callee := Callee.value (Operand.func 8), args := #[Operand.tmp 20], argTypes := #[24] }, type := 24, pos := "law.go:107", after := #[{ on := 0, ground := Ground.data }], guard := none }) rfl (fun K hK => ?_) (AllReadyH.cons (o := { dst := some 9, op := Op.alloc 37, type := 0, pos := "law.go:107", after := #[], guard := none }) rfl (fun K hK => ?_) AllReadyH.nil))
      · have hOld := hide hHeld
        clear hHeld
        go_simp
        refine (HTA.out _).mono ?_
        rintro e v2 ⟨rfl, hb⟩
        have HTx2 := hide (HTx1.out.kept hb)
        have HZ6x2 := hide ((hb.block _ (heap_lt HZ6x1.out)).trans HZ6x1.out)
        clear hb
        (try go_wp2_with fail)
        refine hK.out _ _ (SU.of HTx2.out) (fun hHeld => ?_)
        clear hK K hOld
        try simp only [Act.put, List.setIfInBounds_toArray, List.set_cons_zero, List.set_cons_succ]
        refine wpAnyH_ready (rs := [2, 7]) (by kernel_rfl) (by simp) (AllReadyH.cons (o := { dst := some 22, op := Op.call { callee := Callee.value (Operand.func 10), args := #[Operand.tmp 21], argTypes := #[24] }, type := 37, pos := "law.go:107", after := #[{ on := 1, ground := Ground.data }, { on := 1, ground := Ground.chain }], guard := none }) rfl (fun K hK => ?_) (AllReadyH.cons (o := { dst := some 9, op := Op.alloc 37, type := 0, pos := "law.go:107", after := #[], guard := none }) rfl (fun K hK => ?_) AllReadyH.nil))
        · have hOld := hide hHeld
          clear hHeld
          go_simp
          refine (HOF.out _).mono ?_
          rintro e v3 ⟨rfl, hb⟩
          have HTx3 := hide (HTx2.out.kept hb)
          have HZ6x3 := hide ((hb.block _ (heap_lt HZ6x2.out)).trans HZ6x2.out)
          clear hb
          (try go_wp2_with fail)
          refine hK.out _ _ (SU.of HTx3.out) (fun hHeld => ?_)
          clear hK K hOld
          try simp only [Act.put, List.setIfInBounds_toArray, List.set_cons_zero, List.set_cons_succ]
          refine wpAnyH_ready (rs := [4, 7]) (by kernel_rfl) (by simp) (AllReadyH.cons (o := { dst := some 24, op := Op.call { callee := Callee.value (Operand.func 8), args := #[Operand.tmp 23], argTypes := #[24] }, type := 24, pos := "law.go:107", after := #[{ on := 3, ground := Ground.data }, { on := 2, ground := Ground.chain }], guard := none }) rfl (fun K hK => ?_) (AllReadyH.cons (o := { dst := some 9, op := Op.alloc 37, type := 0, pos := "law.go:107", after := #[], guard := none }) rfl (fun K hK => ?_) AllReadyH.nil))
          · have hOld := hide hHeld
            clear hHeld
            go_simp
            refine (HTA2.out _).mono ?_
            rintro e v4 ⟨rfl, hb⟩
            have HTx4 := hide (HTx3.out.kept hb)
            have HZ6x4 := hide ((hb.block _ (heap_lt HZ6x3.out)).trans HZ6x3.out)
            clear hb
            (try go_wp2_with fail)
            refine hK.out _ _ (SU.of HTx4.out) (fun hHeld => ?_)
            clear hK K hOld
            try simp only [Act.put, List.setIfInBounds_toArray, List.set_cons_zero, List.set_cons_succ]
            refine wpAnyH_ready (rs := [5, 7]) (by kernel_rfl) (by simp) (AllReadyH.cons (o := { dst := some 25, op := Op.call { callee := Callee.value (Operand.func 10), args := #[Operand.tmp 24], argTypes := #[24] }, type := 37, pos := "law.go:107", after := #[{ on := 4, ground := Ground.data }, { on := 4, ground := Ground.chain }], guard := none }) rfl (fun K hK => ?_) (AllReadyH.cons (o := { dst := some 9, op := Op.alloc 37, type := 0, pos := "law.go:107", after := #[], guard := none }) rfl (fun K hK => ?_) AllReadyH.nil))
            · have hOld := hide hHeld
              clear hHeld
              go_simp
              refine (HOF2.out _).mono ?_
              rintro e v5 ⟨rfl, hb⟩
              have HTx5 := hide (HTx4.out.kept hb)
              have HZ6x5 := hide ((hb.block _ (heap_lt HZ6x4.out)).trans HZ6x4.out)
              clear hb
              (try go_wp2_with fail)
              refine hK.out _ _ (SU.of HTx5.out) (fun hHeld => ?_)
              clear hK K hOld
              try simp only [Act.put, List.setIfInBounds_toArray, List.set_cons_zero, List.set_cons_succ]
              refine wpAnyH_ready (rs := [7]) (by kernel_rfl) (by simp) (AllReadyH.cons (o := { dst := some 9, op := Op.alloc 37, type := 0, pos := "law.go:107", after := #[], guard := none }) rfl (fun K hK => ?_) AllReadyH.nil)
              have hOld := hide hHeld
              clear hHeld
              go_simp
              have HTx6 := hide (HTx5.out.alloc (Obj.cells #[.int .u8 0, .int .i64 0, .int .u64 0, .int .i64 0, .int .i64 0] 37))
              have HZ6x6 := hide ((heap_old _ (Obj.cells #[.int .u8 0, .int .i64 0, .int .u64 0, .int .i64 0, .int .i64 0] 37) _ (heap_lt HZ6x5.out)).trans HZ6x5.out)
              have HZ7x6 := hide (show (World.alloc v5 (Obj.cells #[.int .u8 0, .int .i64 0, .int .u64 0, .int .i64 0, .int .i64 0] 37)).heap[v5.heap.size]? = some (.cells (tagC 0 0 0 0 0) 37 (0, 0)) from heapNew v5 (Obj.cells #[.int .u8 0, .int .i64 0, .int .u64 0, .int .i64 0, .int .i64 0] 37))
              have hn7 : w.heap.size + 1 < v5.heap.size ∧ pb < v5.heap.size := ⟨heap_lt HTx5.out.two, tabAt_lt HTx5.out.tab⟩
              have hzz : v0.heap.size < v5.heap.size := heap_lt HZ6x5.out
              generalize World.alloc v5 (Obj.cells #[.int .u8 0, .int .i64 0, .int .u64 0, .int .i64 0, .int .i64 0] 37) = v6 at *
              (try go_wp2_with fail)
              refine hK.out _ _ (SU.of HTx6.out) (fun hHeld => ?_)
              clear hK K hOld
              try simp only [Act.put, List.setIfInBounds_toArray, List.set_cons_zero, List.set_cons_succ]
              refine wpAnyH_ready (rs := [8]) (by kernel_rfl) (by simp) (AllReadyH.cons (o := { dst := none, op := Op.store 37 (Operand.tmp 8) (Operand.tmp 22), type := 0, pos := "law.go:107", after := #[{ on := 6, ground := Ground.data }, { on := 2, ground := Ground.data }, { on := 5, ground := Ground.chain }, { on := 0, ground := Ground.phase }, { on := 1, ground := Ground.phase }, { on := 2, ground := Ground.phase }, { on := 3, ground := Ground.textOnly Departure.lateStores }, { on := 4, ground := Ground.textOnly Departure.lateStoresUnsure }, { on := 5, ground := Ground.textOnly Departure.lateStoresUnsure }, { on := 6, ground := Ground.phase }, { on := 7, ground := Ground.phase }], guard := none }) rfl (fun K hK => ?_) AllReadyH.nil)
              have hOld := hide hHeld
              clear hHeld
              have HZ6x7 := hide (show (World.setRow v6 v0.heap.size (tagC tk tl s tp tn)).heap[v0.heap.size]? = some (.cells (tagC tk tl s tp tn) 37 (0, 0)) from setRow_heap _ _ _ _ _ _ HZ6x6.out)
              have HZ7x7 := hide ((setRow_other v6 v0.heap.size v5.heap.size (tagC tk tl s tp tn) (by omega)).trans HZ7x6.out)
              have HTx7 := hide (HTx6.out.row v0.heap.size (by omega) (by omega) (by omega) (by omega) (tagC tk tl s tp tn))
              refine wp_store_row 37 (.tmp 8) (.tmp 22) rfl (v0.heap.size) rfl (tagC tk tl s tp tn) rfl (tagC 0 0 0 0 0) HZ6x6.out (tag_size _ _ _ _ _) rfl (tagC_one _ _ _ _ _) ?_
              generalize (World.setRow v6 v0.heap.size (tagC tk tl s tp tn)) = v7 at *
              refine hK.out _ _ (SU.of HTx7.out) (fun hHeld => ?_)
              clear hK K hOld
              try simp only [Act.put, List.setIfInBounds_toArray, List.set_cons_zero, List.set_cons_succ]
              refine wpAnyH_ready (rs := [9]) (by kernel_rfl) (by simp) (AllReadyH.cons (o := { dst := none, op := Op.store 37 (Operand.tmp 9) (Operand.tmp 25), type := 0, pos := "law.go:107", after := #[{ on := 7, ground := Ground.data }, { on := 5, ground := Ground.data }, { on := 8, ground := Ground.chain }, { on := 0, ground := Ground.phase }, { on := 1, ground := Ground.phase }, { on := 2, ground := Ground.phase }, { on := 3, ground := Ground.phase }, { on := 4, ground := Ground.phase }, { on := 5, ground := Ground.phase }, { on := 6, ground := Ground.phase }, { on := 7, ground := Ground.phase }, { on := 8, ground := Ground.phase }], guard := none }) rfl (fun K hK => ?_) AllReadyH.nil)
              have hOld := hide hHeld
              clear hHeld
              have HZ7x8 := hide (show (World.setRow v7 v5.heap.size (tagC tk' tl' s' tp' tn')).heap[v5.heap.size]? = some (.cells (tagC tk' tl' s' tp' tn') 37 (0, 0)) from setRow_heap _ _ _ _ _ _ HZ7x7.out)
              have HZ6x8 := hide ((setRow_other v7 v5.heap.size v0.heap.size (tagC tk' tl' s' tp' tn') (by omega)).trans HZ6x7.out)
              have HTx8 := hide (HTx7.out.row v5.heap.size (by omega) (by omega) (by omega) (by omega) (tagC tk' tl' s' tp' tn'))
              refine wp_store_row 37 (.tmp 9) (.tmp 25) rfl (v5.heap.size) rfl (tagC tk' tl' s' tp' tn') rfl (tagC 0 0 0 0 0) HZ7x7.out (tag_size _ _ _ _ _) rfl (tagC_one _ _ _ _ _) ?_
              generalize (World.setRow v7 v5.heap.size (tagC tk' tl' s' tp' tn')) = v8 at *
              refine hK.out _ _ (SU.of HTx8.out) (fun hHeld => ?_)
              clear hK K hOld
              try simp only [Act.put, List.setIfInBounds_toArray, List.set_cons_zero, List.set_cons_succ]
              refine wpAnyH_done (by kernel_rfl) ?_ _
              go_wp2_with fail
              go_meet
              exact ⟨_, _, rfl, rfl, HZ6x8.out, HZ7x8.out, HTx8.out.tab, HTx8.out.below⟩
            · have hOld := hide hHeld
              clear hHeld
              go_simp
              have HTx5 := hide (HTx4.out.alloc (Obj.cells #[.int .u8 0, .int .i64 0, .int .u64 0, .int .i64 0, .int .i64 0] 37))
              have HZ6x5 := hide ((heap_old _ (Obj.cells #[.int .u8 0, .int .i64 0, .int .u64 0, .int .i64 0, .int .i64 0] 37) _ (heap_lt HZ6x4.out)).trans HZ6x4.out)
              have HZ7x5 := hide (show (World.alloc v4 (Obj.cells #[.int .u8 0, .int .i64 0, .int .u64 0, .int .i64 0, .int .i64 0] 37)).heap[v4.heap.size]? = some (.cells (tagC 0 0 0 0 0) 37 (0, 0)) from heapNew v4 (Obj.cells #[.int .u8 0, .int .i64 0, .int .u64 0, .int .i64 0, .int .i64 0] 37))
              have hn7 : w.heap.size + 1 < v4.heap.size ∧ pb < v4.heap.size := ⟨heap_lt HTx4.out.two, tabAt_lt HTx4.out.tab⟩
              have hzz : v0.heap.size < v4.heap.size := heap_lt HZ6x4.out
              generalize World.alloc v4 (Obj.cells #[.int .u8 0, .int .i64 0, .int .u64 0, .int .i64 0, .int .i64 0] 37) = v5 at *
              (try go_wp2_with fail)
              refine hK.out _ _ (SU.of HTx5.out) (fun hHeld => ?_)
              clear hK K hOld
              try simp only [Act.put, List.setIfInBounds_toArray, List.set_cons_zero, List.set_cons_succ]
              refine wpAnyH_ready (rs := [5]) (by kernel_rfl) (by simp) (AllReadyH.cons (o := { dst := some 25, op := Op.call { callee := Callee.value (Operand.func 10), args := #[Operand.tmp 24], argTypes := #[24] }, type := 37, pos := "law.go:107", after := #[{ on := 4, ground := Ground.data }, { on := 4, ground := Ground.chain }], guard := none }) rfl (fun K hK => ?_) AllReadyH.nil)
              have hOld := hide hHeld
              clear hHeld
              go_simp
              refine (HOF2.out _).mono ?_
              rintro e v6 ⟨rfl, hb⟩
              have HTx6 := hide (HTx5.out.kept hb)
              have HZ6x6 := hide ((hb.block _ (heap_lt HZ6x5.out)).trans HZ6x5.out)
              have HZ7x6 := hide ((hb.block _ (heap_lt HZ7x5.out)).trans HZ7x5.out)
              clear hb
              (try go_wp2_with fail)
              refine hK.out _ _ (SU.of HTx6.out) (fun hHeld => ?_)
              clear hK K hOld
              try simp only [Act.put, List.setIfInBounds_toArray, List.set_cons_zero, List.set_cons_succ]
              refine wpAnyH_ready (rs := [8]) (by kernel_rfl) (by simp) (AllReadyH.cons (o := { dst := none, op := Op.store 37 (Operand.tmp 8) (Operand.tmp 22), type := 0, pos := "law.go:107", after := #[{ on := 6, ground := Ground.data }, { on := 2, ground := Ground.data }, { on := 5, ground := Ground.chain }, { on := 0, ground := Ground.phase }, { on := 1, ground := Ground.phase }, { on := 2, ground := Ground.phase }, { on := 3, ground := Ground.textOnly Departure.lateStores }, { on := 4, ground := Ground.textOnly Departure.lateStoresUnsure }, { on := 5, ground := Ground.textOnly Departure.lateStoresUnsure }, { on := 6, ground := Ground.phase }, { on := 7, ground := Ground.phase }], guard := none }) rfl (fun K hK => ?_) AllReadyH.nil)
              have hOld := hide hHeld
              clear hHeld
              have HZ6x7 := hide (show (World.setRow v6 v0.heap.size (tagC tk tl s tp tn)).heap[v0.heap.size]? = some (.cells (tagC tk tl s tp tn) 37 (0, 0)) from setRow_heap _ _ _ _ _ _ HZ6x6.out)
              have HZ7x7 := hide ((setRow_other v6 v0.heap.size v4.heap.size (tagC tk tl s tp tn) (by omega)).trans HZ7x6.out)
              have HTx7 := hide (HTx6.out.row v0.heap.size (by omega) (by omega) (by omega) (by omega) (tagC tk tl s tp tn))
              refine wp_store_row 37 (.tmp 8) (.tmp 22) rfl (v0.heap.size) rfl (tagC tk tl s tp tn) rfl (tagC 0 0 0 0 0) HZ6x6.out (tag_size _ _ _ _ _) rfl (tagC_one _ _ _ _ _) ?_
              generalize (World.setRow v6 v0.heap.size (tagC tk tl s tp tn)) = v7 at *
              refine hK.out _ _ (SU.of HTx7.out) (fun hHeld => ?_)
              clear hK K hOld
              try simp only [Act.put, List.setIfInBounds_toArray, List.set_cons_zero, List.set_cons_succ]
              refine wpAnyH_ready (rs := [9]) (by kernel_rfl) (by simp) (AllReadyH.cons (o := { dst := none, op := Op.store 37 (Operand.tmp 9) (Operand.tmp 25), type := 0, pos := "law.go:107", after := #[{ on := 7, ground := Ground.data }, { on := 5, ground := Ground.data }, { on := 8, ground := Ground.chain }, { on := 0, ground := Ground.phase }, { on := 1, ground := Ground.phase }, { on := 2, ground := Ground.phase }, { on := 3, ground := Ground.phase }, { on := 4, ground := Ground.phase }, { on := 5, ground := Ground.phase }, { on := 6, ground := Ground.phase }, { on := 7, ground := Ground.phase }, { on := 8, ground := Ground.phase }], guard := none }) rfl (fun K hK => ?_) AllReadyH.nil)
              have hOld := hide hHeld
              clear hHeld
              have HZ7x8 := hide (show (World.setRow v7 v4.heap.size (tagC tk' tl' s' tp' tn')).heap[v4.heap.size]? = some (.cells (tagC tk' tl' s' tp' tn') 37 (0, 0)) from setRow_heap _ _ _ _ _ _ HZ7x7.out)
              have HZ6x8 := hide ((setRow_other v7 v4.heap.size v0.heap.size (tagC tk' tl' s' tp' tn') (by omega)).trans HZ6x7.out)
              have HTx8 := hide (HTx7.out.row v4.heap.size (by omega) (by omega) (by omega) (by omega) (tagC tk' tl' s' tp' tn'))
              refine wp_store_row 37 (.tmp 9) (.tmp 25) rfl (v4.heap.size) rfl (tagC tk' tl' s' tp' tn') rfl (tagC 0 0 0 0 0) HZ7x7.out (tag_size _ _ _ _ _) rfl (tagC_one _ _ _ _ _) ?_
              generalize (World.setRow v7 v4.heap.size (tagC tk' tl' s' tp' tn')) = v8 at *
              refine hK.out _ _ (SU.of HTx8.out) (fun hHeld => ?_)
              clear hK K hOld
              try simp only [Act.put, List.setIfInBounds_toArray, List.set_cons_zero, List.set_cons_succ]
              refine wpAnyH_done (by kernel_rfl) ?_ _
              go_wp2_with fail
              go_meet
              exact ⟨_, _, rfl, rfl, HZ6x8.out, HZ7x8.out, HTx8.out.tab, HTx8.out.below⟩
          · have hOld := hide hHeld
            clear hHeld
            go_simp
            have HTx4 := hide (HTx3.out.alloc (Obj.cells #[.int .u8 0, .int .i64 0, .int .u64 0, .int .i64 0, .int .i64 0] 37))
            have HZ6x4 := hide ((heap_old _ (Obj.cells #[.int .u8 0, .int .i64 0, .int .u64 0, .int .i64 0, .int .i64 0] 37) _ (heap_lt HZ6x3.out)).trans HZ6x3.out)
            have HZ7x4 := hide (show (World.alloc v3 (Obj.cells #[.int .u8 0, .int .i64 0, .int .u64 0, .int .i64 0, .int .i64 0] 37)).heap[v3.heap.size]? = some (.cells (tagC 0 0 0 0 0) 37 (0, 0)) from heapNew v3 (Obj.cells #[.int .u8 0, .int .i64 0, .int .u64 0, .int .i64 0, .int .i64 0] 37))
            have hn7 : w.heap.size + 1 < v3.heap.size ∧ pb < v3.heap.size := ⟨heap_lt HTx3.out.two, tabAt_lt HTx3.out.tab⟩
            have hzz : v0.heap.size < v3.heap.size := heap_lt HZ6x3.out
            generalize World.alloc v3 (Obj.cells #[.int .u8 0, .int .i64 0, .int .u64 0, .int .i64 0, .int .i64 0] 37) = v4 at *
            (try go_wp2_with fail)
            refine hK.out _ _ (SU.of HTx4.out) (fun hHeld => ?_)
            clear hK K hOld
            try simp only [Act.put, List.setIfInBounds_toArray, List.set_cons_zero, List.set_cons_succ]
            refine wpAnyH_ready (rs := [4]) (by kernel_rfl) (by simp) (AllReadyH.cons (o := { dst := some 24, op := Op.call { callee := Callee.value (Operand.func 8), args := #[Operand.tmp 23], argTypes := #[24] }, type := 24, pos := "law.go:107", after := #[{ on := 3, ground := Ground.data }, { on := 2, ground := Ground.chain }], guard := none }) rfl (fun K hK => ?_) AllReadyH.nil)
            have hOld := hide hHeld
            clear hHeld
            go_simp
            refine (HTA2.out _).mono ?_
            rintro e v5 ⟨rfl, hb⟩
            have HTx5 := hide (HTx4.out.kept hb)
            have HZ6x5 := hide ((hb.block _ (heap_lt HZ6x4.out)).trans HZ6x4.out)
            have HZ7x5 := hide ((hb.block _ (heap_lt HZ7x4.out)).trans HZ7x4.out)
            clear hb
            (try go_wp2_with fail)
            refine hK.out _ _ (SU.of HTx5.out) (fun hHeld => ?_)
            clear hK K hOld
            try simp only [Act.put, List.setIfInBounds_toArray, List.set_cons_zero, List.set_cons_succ]
            refine wpAnyH_ready (rs := [5]) (by kernel_rfl) (by simp) (AllReadyH.cons (o := { dst := some 25, op := Op.call { callee := Callee.value (Operand.func 10), args := #[Operand.tmp 24], argTypes := #[24] }, type := 37, pos := "law.go:107", after := #[{ on := 4, ground := Ground.data }, { on := 4, ground := Ground.chain }], guard := none }) rfl (fun K hK => ?_) AllReadyH.nil)
            have hOld := hide hHeld
            clear hHeld
            go_simp
            refine (HOF2.out _).mono ?_
            rintro e v6 ⟨rfl, hb⟩
            have HTx6 := hide (HTx5.out.kept hb)
            have HZ6x6 := hide ((hb.block _ (heap_lt HZ6x5.out)).trans HZ6x5.out)
            have HZ7x6 := hide ((hb.block _ (heap_lt HZ7x5.out)).trans HZ7x5.out)
            clear hb
            (try go_wp2_with fail)
            refine hK.out _ _ (SU.of HTx6.out) (fun hHeld => ?_)
            clear hK K hOld
            try simp only [Act.put, List.setIfInBounds_toArray, List.set_cons_zero, List.set_cons_succ]
            refine wpAnyH_ready (rs := [8]) (by kernel_rfl) (by simp) (AllReadyH.cons (o := { dst := none, op := Op.store 37 (Operand.tmp 8) (Operand.tmp 22), type := 0, pos := "law.go:107", after := #[{ on := 6, ground := Ground.data }, { on := 2, ground := Ground.data }, { on := 5, ground := Ground.chain }, { on := 0, ground := Ground.phase }, { on := 1, ground := Ground.phase }, { on := 2, ground := Ground.phase }, { on := 3, ground := Ground.textOnly Departure.lateStores }, { on := 4, ground := Ground.textOnly Departure.lateStoresUnsure }, { on := 5, ground := Ground.textOnly Departure.lateStoresUnsure }, { on := 6, ground := Ground.phase }, { on := 7, ground := Ground.phase }], guard := none }) rfl (fun K hK => ?_) AllReadyH.nil)
            have hOld := hide hHeld
            clear hHeld
            have HZ6x7 := hide (show (World.setRow v6 v0.heap.size (tagC tk tl s tp tn)).heap[v0.heap.size]? = some (.cells (tagC tk tl s tp tn) 37 (0, 0)) from setRow_heap _ _ _ _ _ _ HZ6x6.out)
            have HZ7x7 := hide ((setRow_other v6 v0.heap.size v3.heap.size (tagC tk tl s tp tn) (by omega)).trans HZ7x6.out)
            have HTx7 := hide (HTx6.out.row v0.heap.size (by omega) (by omega) (by omega) (by omega) (tagC tk tl s tp tn))
            refine wp_store_row 37 (.tmp 8) (.tmp 22) rfl (v0.heap.size) rfl (tagC tk tl s tp tn) rfl (tagC 0 0 0 0 0) HZ6x6.out (tag_size _ _ _ _ _) rfl (tagC_one _ _ _ _ _) ?_
            generalize (World.setRow v6 v0.heap.size (tagC tk tl s tp tn)) = v7 at *
            refine hK.out _ _ (SU.of HTx7.out) (fun hHeld => ?_)
            clear hK K hOld
            try simp only [Act.put, List.setIfInBounds_toArray, List.set_cons_zero, List.set_cons_succ]
            refine wpAnyH_ready (rs := [9]) (by kernel_rfl) (by simp) (AllReadyH.cons (o := { dst := none, op := Op.store 37 (Operand.tmp 9) (Operand.tmp 25), type := 0, pos := "law.go:107", after := #[{ on := 7, ground := Ground.data }, { on := 5, ground := Ground.data }, { on := 8, ground := Ground.chain }, { on := 0, ground := Ground.phase }, { on := 1, ground := Ground.phase }, { on := 2, ground := Ground.phase }, { on := 3, ground := Ground.phase }, { on := 4, ground := Ground.phase }, { on := 5, ground := Ground.phase }, { on := 6, ground := Ground.phase }, { on := 7, ground := Ground.phase }, { on := 8, ground := Ground.phase }], guard := none }) rfl (fun K hK => ?_) AllReadyH.nil)
            have hOld := hide hHeld
            clear hHeld
            have HZ7x8 := hide (show (World.setRow v7 v3.heap.size (tagC tk' tl' s' tp' tn')).heap[v3.heap.size]? = some (.cells (tagC tk' tl' s' tp' tn') 37 (0, 0)) from setRow_heap _ _ _ _ _ _ HZ7x7.out)
            have HZ6x8 := hide ((setRow_other v7 v3.heap.size v0.heap.size (tagC tk' tl' s' tp' tn') (by omega)).trans HZ6x7.out)
            have HTx8 := hide (HTx7.out.row v3.heap.size (by omega) (by omega) (by omega) (by omega) (tagC tk' tl' s' tp' tn'))
            refine wp_store_row 37 (.tmp 9) (.tmp 25) rfl (v3.heap.size) rfl (tagC tk' tl' s' tp' tn') rfl (tagC 0 0 0 0 0) HZ7x7.out (tag_size _ _ _ _ _) rfl (tagC_one _ _ _ _ _) ?_
            generalize (World.setRow v7 v3.heap.size (tagC tk' tl' s' tp' tn')) = v8 at *
            refine hK.out _ _ (SU.of HTx8.out) (fun hHeld => ?_)
            clear hK K hOld
            try simp only [Act.put, List.setIfInBounds_toArray, List.set_cons_zero, List.set_cons_succ]
            refine wpAnyH_done (by kernel_rfl) ?_ _
            go_wp2_with fail
            go_meet
            exact ⟨_, _, rfl, rfl, HZ6x8.out, HZ7x8.out, HTx8.out.tab, HTx8.out.below⟩
        · have hOld := hide hHeld
          clear hHeld
          go_simp
          have HTx3 := hide (HTx2.out.alloc (Obj.cells #[.int .u8 0, .int .i64 0, .int .u64 0, .int .i64 0, .int .i64 0] 37))
          have HZ6x3 := hide ((heap_old _ (Obj.cells #[.int .u8 0, .int .i64 0, .int .u64 0, .int .i64 0, .int .i64 0] 37) _ (heap_lt HZ6x2.out)).trans HZ6x2.out)
          have HZ7x3 := hide (show (World.alloc v2 (Obj.cells #[.int .u8 0, .int .i64 0, .int .u64 0, .int .i64 0, .int .i64 0] 37)).heap[v2.heap.size]? = some (.cells (tagC 0 0 0 0 0) 37 (0, 0)) from heapNew v2 (Obj.cells #[.int .u8 0, .int .i64 0, .int .u64 0, .int .i64 0, .int .i64 0] 37))
          have hn7 : w.heap.size + 1 < v2.heap.size ∧ pb < v2.heap.size := ⟨heap_lt HTx2.out.two, tabAt_lt HTx2.out.tab⟩
          have hzz : v0.heap.size < v2.heap.size := heap_lt HZ6x2.out
          generalize World.alloc v2 (Obj.cells #[.int .u8 0, .int .i64 0, .int .u64 0, .int .i64 0, .int .i64 0] 37) = v3 at *
          (try go_wp2_with fail)
          refine hK.out _ _ (SU.of HTx3.out) (fun hHeld => ?_)
          clear hK K hOld
          try simp only [Act.put, List.setIfInBounds_toArray, List.set_cons_zero, List.set_cons_succ]
          refine wpAnyH_ready (rs := [2]) (by kernel_rfl) (by simp) (AllReadyH.cons (o := { dst := some 22, op := Op.call { callee := Callee.value (Operand.func 10), args := #[Operand.tmp 21], argTypes := #[24] }, type := 37, pos := "law.go:107", after := #[{ on := 1, ground := Ground.data }, { on := 1, ground := Ground.chain }], guard := none }) rfl (fun K hK => ?_) AllReadyH.nil)
          have hOld := hide hHeld
          clear hHeld
          go_simp
          refine (HOF.out _).mono ?_
          rintro e v4 ⟨rfl, hb⟩
          have HTx4 := hide (HTx3.out.kept hb)
          have HZ6x4 := hide ((hb.block _ (heap_lt HZ6x3.out)).trans HZ6x3.out)
          have HZ7x4 := hide ((hb.block _ (heap_lt HZ7x3.out)).trans HZ7x3.out)
          clear hb
          (try go_wp2_with fail)
          refine hK.out _ _ (SU.of HTx4.out) (fun hHeld => ?_)
          clear hK K hOld
          try simp only [Act.put, List.setIfInBounds_toArray, List.set_cons_zero, List.set_cons_succ]
          refine wpAnyH_ready (rs := [4]) (by kernel_rfl) (by simp) (AllReadyH.cons (o := { dst := some 24, op := Op.call { callee := Callee.value (Operand.func 8), args := #[Operand.tmp 23], argTypes := #[24] }, type := 24, pos := "law.go:107", after := #[{ on := 3, ground := Ground.data }, { on := 2, ground := Ground.chain }], guard := none }) rfl (fun K hK => ?_) AllReadyH.nil)
          have hOld := hide hHeld
          clear hHeld
          go_simp
          refine (HTA2.out _).mono ?_
          rintro e v5 ⟨rfl, hb⟩
          have HTx5 := hide (HTx4.out.kept hb)
          have HZ6x5 := hide ((hb.block _ (heap_lt HZ6x4.out)).trans HZ6x4.out)
          have HZ7x5 := hide ((hb.block _ (heap_lt HZ7x4.out)).trans HZ7x4.out)
          clear hb
          (try go_wp2_with fail)
          refine hK.out _ _ (SU.of HTx5.out) (fun hHeld => ?_)
          clear hK K hOld
          try simp only [Act.put, List.setIfInBounds_toArray, List.set_cons_zero, List.set_cons_succ]
          refine wpAnyH_ready (rs := [5]) (by kernel_rfl) (by simp) (AllReadyH.cons (o := { dst := some 25, op := Op.call { callee := Callee.value (Operand.func 10), args := #[Operand.tmp 24], argTypes := #[24] }, type := 37, pos := "law.go:107", after := #[{ on := 4, ground := Ground.data }, { on := 4, ground := Ground.chain }], guard := none }) rfl (fun K hK => ?_) AllReadyH.nil)
          have hOld := hide hHeld
          clear hHeld
          go_simp
          refine (HOF2.out _).mono ?_
          rintro e v6 ⟨rfl, hb⟩
          have HTx6 := hide (HTx5.out.kept hb)
          have HZ6x6 := hide ((hb.block _ (heap_lt HZ6x5.out)).trans HZ6x5.out)
          have HZ7x6 := hide ((hb.block _ (heap_lt HZ7x5.out)).trans HZ7x5.out)
          clear hb
          (try go_wp2_with fail)
          refine hK.out _ _ (SU.of HTx6.out) (fun hHeld => ?_)
          clear hK K hOld
          try simp only [Act.put, List.setIfInBounds_toArray, List.set_cons_zero, List.set_cons_succ]
          refine wpAnyH_ready (rs := [8]) (by kernel_rfl) (by simp) (AllReadyH.cons (o := { dst := none, op := Op.store 37 (Operand.tmp 8) (Operand.tmp 22), type := 0, pos := "law.go:107", after := #[{ on := 6, ground := Ground.data }, { on := 2, ground := Ground.data }, { on := 5, ground := Ground.chain }, { on := 0, ground := Ground.phase }, { on := 1, ground := Ground.phase }, { on := 2, ground := Ground.phase }, { on := 3, ground := Ground.textOnly Departure.lateStores }, { on := 4, ground := Ground.textOnly Departure.lateStoresUnsure }, { on := 5, ground := Ground.textOnly Departure.lateStoresUnsure }, { on := 6, ground := Ground.phase }, { on := 7, ground := Ground.phase }], guard := none }) rfl (fun K hK => ?_) AllReadyH.nil)
          have hOld := hide hHeld
          clear hHeld
          have HZ6x7 := hide (show (World.setRow v6 v0.heap.size (tagC tk tl s tp tn)).heap[v0.heap.size]? = some (.cells (tagC tk tl s tp tn) 37 (0, 0)) from setRow_heap _ _ _ _ _ _ HZ6x6.out)
          have HZ7x7 := hide ((setRow_other v6 v0.heap.size v2.heap.size (tagC tk tl s tp tn) (by omega)).trans HZ7x6.out)
          have HTx7 := hide (HTx6.out.row v0.heap.size (by omega) (by omega) (by omega) (by omega) (tagC tk tl s tp tn))
          refine wp_store_row 37 (.tmp 8) (.tmp 22) rfl (v0.heap.size) rfl (tagC tk tl s tp tn) rfl (tagC 0 0 0 0 0) HZ6x6.out (tag_size _ _ _ _ _) rfl (tagC_one _ _ _ _ _) ?_
          generalize (World.setRow v6 v0.heap.size (tagC tk tl s tp tn)) = v7 at *
          refine hK.out _ _ (SU.of HTx7.out) (fun hHeld => ?_)
          clear hK K hOld
          try simp only [Act.put, List.setIfInBounds_toArray, List.set_cons_zero, List.set_cons_succ]
          refine wpAnyH_ready (rs := [9]) (by kernel_rfl) (by simp) (AllReadyH.cons (o := { dst := none, op := Op.store 37 (Operand.tmp 9) (Operand.tmp 25), type := 0, pos := "law.go:107", after := #[{ on := 7, ground := Ground.data }, { on := 5, ground := Ground.data }, { on := 8, ground := Ground.chain }, { on := 0, ground := Ground.phase }, { on := 1, ground := Ground.phase }, { on := 2, ground := Ground.phase }, { on := 3, ground := Ground.phase }, { on := 4, ground := Ground.phase }, { on := 5, ground := Ground.phase }, { on := 6, ground := Ground.phase }, { on := 7, ground := Ground.phase }, { on := 8, ground := Ground.phase }], guard := none }) rfl (fun K hK => ?_) AllReadyH.nil)
          have hOld := hide hHeld
          clear hHeld
          have HZ7x8 := hide (show (World.setRow v7 v2.heap.size (tagC tk' tl' s' tp' tn')).heap[v2.heap.size]? = some (.cells (tagC tk' tl' s' tp' tn') 37 (0, 0)) from setRow_heap _ _ _ _ _ _ HZ7x7.out)
          have HZ6x8 := hide ((setRow_other v7 v2.heap.size v0.heap.size (tagC tk' tl' s' tp' tn') (by omega)).trans HZ6x7.out)
          have HTx8 := hide (HTx7.out.row v2.heap.size (by omega) (by omega) (by omega) (by omega) (tagC tk' tl' s' tp' tn'))
          refine wp_store_row 37 (.tmp 9) (.tmp 25) rfl (v2.heap.size) rfl (tagC tk' tl' s' tp' tn') rfl (tagC 0 0 0 0 0) HZ7x7.out (tag_size _ _ _ _ _) rfl (tagC_one _ _ _ _ _) ?_
          generalize (World.setRow v7 v2.heap.size (tagC tk' tl' s' tp' tn')) = v8 at *
          refine hK.out _ _ (SU.of HTx8.out) (fun hHeld => ?_)
          clear hK K hOld
          try simp only [Act.put, List.setIfInBounds_toArray, List.set_cons_zero, List.set_cons_succ]
          refine wpAnyH_done (by kernel_rfl) ?_ _
          go_wp2_with fail
          go_meet
          exact ⟨_, _, rfl, rfl, HZ6x8.out, HZ7x8.out, HTx8.out.tab, HTx8.out.below⟩
      · have hOld := hide hHeld
        clear hHeld
        go_simp
        have HTx2 := hide (HTx1.out.alloc (Obj.cells #[.int .u8 0, .int .i64 0, .int .u64 0, .int .i64 0, .int .i64 0] 37))
        have HZ6x2 := hide ((heap_old _ (Obj.cells #[.int .u8 0, .int .i64 0, .int .u64 0, .int .i64 0, .int .i64 0] 37) _ (heap_lt HZ6x1.out)).trans HZ6x1.out)
        have HZ7x2 := hide (show (World.alloc v1 (Obj.cells #[.int .u8 0, .int .i64 0, .int .u64 0, .int .i64 0, .int .i64 0] 37)).heap[v1.heap.size]? = some (.cells (tagC 0 0 0 0 0) 37 (0, 0)) from heapNew v1 (Obj.cells #[.int .u8 0, .int .i64 0, .int .u64 0, .int .i64 0, .int .i64 0] 37))
        have hn7 : w.heap.size + 1 < v1.heap.size ∧ pb < v1.heap.size := ⟨heap_lt HTx1.out.two, tabAt_lt HTx1.out.tab⟩
        have hzz : v0.heap.size < v1.heap.size := heap_lt HZ6x1.out
        generalize World.alloc v1 (Obj.cells #[.int .u8 0, .int .i64 0, .int .u64 0, .int .i64 0, .int .i64 0] 37) = v2 at *
        (try go_wp2_with fail)
        refine hK.out _ _ (SU.of HTx2.out) (fun hHeld => ?_)
        clear hK K hOld
        try simp only [Act.put, List.setIfInBounds_toArray, List.set_cons_zero, List.set_cons_succ]
        refine wpAnyH_ready (rs := [1]) (by kernel_rfl) (by simp) (AllReadyH.cons (o := { dst := some 21, op := Op.call { callee := Callee.value (Operand.func 8), args := #[Operand.tmp 20], argTypes := #[24] }, type := 24, pos := "law.go:107", after := #[{ on := 0, ground := Ground.data }], guard := none }) rfl (fun K hK => ?_) AllReadyH.nil)
        have hOld := hide hHeld
        clear hHeld
        go_simp
        refine (HTA.out _).mono ?_
        rintro e v3 ⟨rfl, hb⟩
        have HTx3 := hide (HTx2.out.kept hb)
        have HZ6x3 := hide ((hb.block _ (heap_lt HZ6x2.out)).trans HZ6x2.out)
        have HZ7x3 := hide ((hb.block _ (heap_lt HZ7x2.out)).trans HZ7x2.out)
        clear hb
        (try go_wp2_with fail)
        refine hK.out _ _ (SU.of HTx3.out) (fun hHeld => ?_)
        clear hK K hOld
        try simp only [Act.put, List.setIfInBounds_toArray, List.set_cons_zero, List.set_cons_succ]
        refine wpAnyH_ready (rs := [2]) (by kernel_rfl) (by simp) (AllReadyH.cons (o := { dst := some 22, op := Op.call { callee := Callee.value (Operand.func 10), args := #[Operand.tmp 21], argTypes := #[24] }, type := 37, pos := "law.go:107", after := #[{ on := 1, ground := Ground.data }, { on := 1, ground := Ground.chain }], guard := none }) rfl (fun K hK => ?_) AllReadyH.nil)
        have hOld := hide hHeld
        clear hHeld
        go_simp
        refine (HOF.out _).mono ?_
        rintro e v4 ⟨rfl, hb⟩
        have HTx4 := hide (HTx3.out.kept hb)
        have HZ6x4 := hide ((hb.block _ (heap_lt HZ6x3.out)).trans HZ6x3.out)
        have HZ7x4 := hide ((hb.block _ (heap_lt HZ7x3.out)).trans HZ7x3.out)
        clear hb
        (try go_wp2_with fail)
        refine hK.out _ _ (SU.of HTx4.out) (fun hHeld => ?_)
        clear hK K hOld
        try simp only [Act.put, List.setIfInBounds_toArray, List.set_cons_zero, List.set_cons_succ]
        refine wpAnyH_ready (rs := [4]) (by kernel_rfl) (by simp) (AllReadyH.cons (o := { dst := some 24, op := Op.call { callee := Callee.value (Operand.func 8), args := #[Operand.tmp 23], argTypes := #[24] }, type := 24, pos := "law.go:107", after := #[{ on := 3, ground := Ground.data }, { on := 2, ground := Ground.chain }], guard := none }) rfl (fun K hK => ?_) AllReadyH.nil)
        have hOld := hide hHeld
        clear hHeld
        go_simp
        refine (HTA2.out _).mono ?_
        rintro e v5 ⟨rfl, hb⟩
        have HTx5 := hide (HTx4.out.kept hb)
        have HZ6x5 := hide ((hb.block _ (heap_lt HZ6x4.out)).trans HZ6x4.out)
        have HZ7x5 := hide ((hb.block _ (heap_lt HZ7x4.out)).trans HZ7x4.out)
        clear hb
        (try go_wp2_with fail)
        refine hK.out _ _ (SU.of HTx5.out) (fun hHeld => ?_)
        clear hK K hOld
        try simp only [Act.put, List.setIfInBounds_toArray, List.set_cons_zero, List.set_cons_succ]
        refine wpAnyH_ready (rs := [5]) (by kernel_rfl) (by simp) (AllReadyH.cons (o := { dst := some 25, op := Op.call { callee := Callee.value (Operand.func 10), args := #[Operand.tmp 24], argTypes := #[24] }, type := 37, pos := "law.go:107", after := #[{ on := 4, ground := Ground.data }, { on := 4, ground := Ground.chain }], guard := none }) rfl (fun K hK => ?_) AllReadyH.nil)
        have hOld := hide hHeld
        clear hHeld
        go_simp
        refine (HOF2.out _).mono ?_
        rintro e v6 ⟨rfl, hb⟩
        have HTx6 := hide (HTx5.out.kept hb)
        have HZ6x6 := hide ((hb.block _ (heap_lt HZ6x5.out)).trans HZ6x5.out)
        have HZ7x6 := hide ((hb.block _ (heap_lt HZ7x5.out)).trans HZ7x5.out)
        clear hb
        (try go_wp2_with fail)
        refine hK.out _ _ (SU.of HTx6.out) (fun hHeld => ?_)
        clear hK K hOld
        try simp only [Act.put, List.setIfInBounds_toArray, List.set_cons_zero, List.set_cons_succ]
        refine wpAnyH_ready (rs := [8]) (by kernel_rfl) (by simp) (AllReadyH.cons (o := { dst := none, op := Op.store 37 (Operand.tmp 8) (Operand.tmp 22), type := 0, pos := "law.go:107", after := #[{ on := 6, ground := Ground.data }, { on := 2, ground := Ground.data }, { on := 5, ground := Ground.chain }, { on := 0, ground := Ground.phase }, { on := 1, ground := Ground.phase }, { on := 2, ground := Ground.phase }, { on := 3, ground := Ground.textOnly Departure.lateStores }, { on := 4, ground := Ground.textOnly Departure.lateStoresUnsure }, { on := 5, ground := Ground.textOnly Departure.lateStoresUnsure }, { on := 6, ground := Ground.phase }, { on := 7, ground := Ground.phase }], guard := none }) rfl (fun K hK => ?_) AllReadyH.nil)
        have hOld := hide hHeld
        clear hHeld
        have HZ6x7 := hide (show (World.setRow v6 v0.heap.size (tagC tk tl s tp tn)).heap[v0.heap.size]? = some (.cells (tagC tk tl s tp tn) 37 (0, 0)) from setRow_heap _ _ _ _ _ _ HZ6x6.out)
        have HZ7x7 := hide ((setRow_other v6 v0.heap.size v1.heap.size (tagC tk tl s tp tn) (by omega)).trans HZ7x6.out)
        have HTx7 := hide (HTx6.out.row v0.heap.size (by omega) (by omega) (by omega) (by omega) (tagC tk tl s tp tn))
        refine wp_store_row 37 (.tmp 8) (.tmp 22) rfl (v0.heap.size) rfl (tagC tk tl s tp tn) rfl (tagC 0 0 0 0 0) HZ6x6.out (tag_size _ _ _ _ _) rfl (tagC_one _ _ _ _ _) ?_
        generalize (World.setRow v6 v0.heap.size (tagC tk tl s tp tn)) = v7 at *
        refine hK.out _ _ (SU.of HTx7.out) (fun hHeld => ?_)
        clear hK K hOld
        try simp only [Act.put, List.setIfInBounds_toArray, List.set_cons_zero, List.set_cons_succ]
        refine wpAnyH_ready (rs := [9]) (by kernel_rfl) (by simp) (AllReadyH.cons (o := { dst := none, op := Op.store 37 (Operand.tmp 9) (Operand.tmp 25), type := 0, pos := "law.go:107", after := #[{ on := 7, ground := Ground.data }, { on := 5, ground := Ground.data }, { on := 8, ground := Ground.chain }, { on := 0, ground := Ground.phase }, { on := 1, ground := Ground.phase }, { on := 2, ground := Ground.phase }, { on := 3, ground := Ground.phase }, { on := 4, ground := Ground.phase }, { on := 5, ground := Ground.phase }, { on := 6, ground := Ground.phase }, { on := 7, ground := Ground.phase }, { on := 8, ground := Ground.phase }], guard := none }) rfl (fun K hK => ?_) AllReadyH.nil)
        have hOld := hide hHeld
        clear hHeld
        have HZ7x8 := hide (show (World.setRow v7 v1.heap.size (tagC tk' tl' s' tp' tn')).heap[v1.heap.size]? = some (.cells (tagC tk' tl' s' tp' tn') 37 (0, 0)) from setRow_heap _ _ _ _ _ _ HZ7x7.out)
        have HZ6x8 := hide ((setRow_other v7 v1.heap.size v0.heap.size (tagC tk' tl' s' tp' tn') (by omega)).trans HZ6x7.out)
        have HTx8 := hide (HTx7.out.row v1.heap.size (by omega) (by omega) (by omega) (by omega) (tagC tk' tl' s' tp' tn'))
        refine wp_store_row 37 (.tmp 9) (.tmp 25) rfl (v1.heap.size) rfl (tagC tk' tl' s' tp' tn') rfl (tagC 0 0 0 0 0) HZ7x7.out (tag_size _ _ _ _ _) rfl (tagC_one _ _ _ _ _) ?_
        generalize (World.setRow v7 v1.heap.size (tagC tk' tl' s' tp' tn')) = v8 at *
        refine hK.out _ _ (SU.of HTx8.out) (fun hHeld => ?_)
        clear hK K hOld
        try simp only [Act.put, List.setIfInBounds_toArray, List.set_cons_zero, List.set_cons_succ]
        refine wpAnyH_done (by kernel_rfl) ?_ _
        go_wp2_with fail
        go_meet
        exact ⟨_, _, rfl, rfl, HZ6x8.out, HZ7x8.out, HTx8.out.tab, HTx8.out.below⟩
    · have hOld := hide hHeld
      clear hHeld
      go_simp
      have HTx1 := hide (HT3.out.alloc (Obj.cells #[.int .u8 0, .int .i64 0, .int .u64 0, .int .i64 0, .int .i64 0] 37))
      have HZ7x1 := hide (show (World.alloc v0 (Obj.cells #[.int .u8 0, .int .i64 0, .int .u64 0, .int .i64 0, .int .i64 0] 37)).heap[v0.heap.size]? = some (.cells (tagC 0 0 0 0 0) 37 (0, 0)) from heapNew v0 (Obj.cells #[.int .u8 0, .int .i64 0, .int .u64 0, .int .i64 0, .int .i64 0] 37))
      have hn7 : w.heap.size + 1 < v0.heap.size ∧ pb < v0.heap.size := ⟨heap_lt HT3.out.two, tabAt_lt HT3.out.tab⟩
      generalize World.alloc v0 (Obj.cells #[.int .u8 0, .int .i64 0, .int .u64 0, .int .i64 0, .int .i64 0] 37) = v1 at *
      (try go_wp2_with fail)
      refine hK.out _ _ (SU.of HTx1.out) (fun hHeld => ?_)
      clear hK K hOld
      try simp only [Act.put, List.setIfInBounds_toArray, List.set_cons_zero, List.set_cons_succ]
      refine wpAnyH_ready (rs := [1, 6]) (by kernel_rfl) (by simp) (AllReadyH.cons (o := { dst := some 21, op := Op.call { callee := Callee.value (Operand.func 8), args := #[Operand.tmp 20], argTypes := #[24] }, type := 24, pos := "law.go:107", after := #[{ on := 0, ground := Ground.data }], guard := none }) rfl (fun K hK => ?_) (AllReadyH.cons (o := { dst := some 8, op := Op.alloc 37, type := 0, pos := "law.go:107", after := #[], guard := none }) rfl (fun K hK => ?_) AllReadyH.nil))
      · have hOld := hide hHeld
        clear hHeld
        go_simp
        refine (HTA.out _).mono ?_
        rintro e v2 ⟨rfl, hb⟩
        have HTx2 := hide (HTx1.out.kept hb)
        have HZ7x2 := hide ((hb.block _ (heap_lt HZ7x1.out)).trans HZ7x1.out)
        clear hb
        (try go_wp2_with fail)
        refine hK.out _ _ (SU.of HTx2.out) (fun hHeld => ?_)
        clear hK K hOld
        try simp only [Act.put, List.setIfInBounds_toArray, List.set_cons_zero, List.set_cons_succ]
        refine wpAnyH_ready (rs := [2, 6]) (by kernel_rfl) (by simp) (AllReadyH.cons (o := { dst := some 22, op := Op.call { callee := Callee.value (Operand.func 10), args := #[Operand.tmp 21], argTypes := #[24] }, type := 37, pos := "law.go:107", after := #[{ on := 1, ground := Ground.data }, { on := 1, ground := Ground.chain }], guard := none }) rfl (fun K hK => ?_) (AllReadyH.cons (o := { dst := some 8, op := Op.alloc 37, type := 0, pos := "law.go:107", after := #[], guard := none }) rfl (fun K hK => ?_) AllReadyH.nil))
        · have hOld := hide hHeld
          clear hHeld
          go_simp
          refine (HOF.out _).mono ?_
          rintro e v3 ⟨rfl, hb⟩
          have HTx3 := hide (HTx2.out.kept hb)
          have HZ7x3 := hide ((hb.block _ (heap_lt HZ7x2.out)).trans HZ7x2.out)
          clear hb
          (try go_wp2_with fail)
          refine hK.out _ _ (SU.of HTx3.out) (fun hHeld => ?_)
          clear hK K hOld
          try simp only [Act.put, List.setIfInBounds_toArray, List.set_cons_zero, List.set_cons_succ]
          refine wpAnyH_ready (rs := [4, 6]) (by kernel_rfl) (by simp) (AllReadyH.cons (o := { dst := some 24, op := Op.call { callee := Callee.value (Operand.func 8), args := #[Operand.tmp 23], argTypes := #[24] }, type := 24, pos := "law.go:107", after := #[{ on := 3, ground := Ground.data }, { on := 2, ground := Ground.chain }], guard := none }) rfl (fun K hK => ?_) (AllReadyH.cons (o := { dst := some 8, op := Op.alloc 37, type := 0, pos := "law.go:107", after := #[], guard := none }) rfl (fun K hK => ?_) AllReadyH.nil))
          · have hOld := hide hHeld
            clear hHeld
            go_simp
            refine (HTA2.out _).mono ?_
            rintro e v4 ⟨rfl, hb⟩
            have HTx4 := hide (HTx3.out.kept hb)
            have HZ7x4 := hide ((hb.block _ (heap_lt HZ7x3.out)).trans HZ7x3.out)
            clear hb
            (try go_wp2_with fail)
            refine hK.out _ _ (SU.of HTx4.out) (fun hHeld => ?_)
            clear hK K hOld
            try simp only [Act.put, List.setIfInBounds_toArray, List.set_cons_zero, List.set_cons_succ]
            refine wpAnyH_ready (rs := [5, 6]) (by kernel_rfl) (by simp) (AllReadyH.cons (o := { dst := some 25, op := Op.call { callee := Callee.value (Operand.func 10), args := #[Operand.tmp 24], argTypes := #[24] }, type := 37, pos := "law.go:107", after := #[{ on := 4, ground := Ground.data }, { on := 4, ground := Ground.chain }], guard := none }) rfl (fun K hK => ?_) (AllReadyH.cons (o := { dst := some 8, op := Op.alloc 37, type := 0, pos := "law.go:107", after := #[], guard := none }) rfl (fun K hK => ?_) AllReadyH.nil))
            · have hOld := hide hHeld
              clear hHeld
              go_simp
              refine (HOF2.out _).mono ?_
              rintro e v5 ⟨rfl, hb⟩
              have HTx5 := hide (HTx4.out.kept hb)
              have HZ7x5 := hide ((hb.block _ (heap_lt HZ7x4.out)).trans HZ7x4.out)
              clear hb
              (try go_wp2_with fail)
              refine hK.out _ _ (SU.of HTx5.out) (fun hHeld => ?_)
              clear hK K hOld
              try simp only [Act.put, List.setIfInBounds_toArray, List.set_cons_zero, List.set_cons_succ]
              refine wpAnyH_ready (rs := [6]) (by kernel_rfl) (by simp) (AllReadyH.cons (o := { dst := some 8, op := Op.alloc 37, type := 0, pos := "law.go:107", after := #[], guard := none }) rfl (fun K hK => ?_) AllReadyH.nil)
              have hOld := hide hHeld
              clear hHeld
              go_simp
              have HTx6 := hide (HTx5.out.alloc (Obj.cells #[.int .u8 0, .int .i64 0, .int .u64 0, .int .i64 0, .int .i64 0] 37))
              have HZ7x6 := hide ((heap_old _ (Obj.cells #[.int .u8 0, .int .i64 0, .int .u64 0, .int .i64 0, .int .i64 0] 37) _ (heap_lt HZ7x5.out)).trans HZ7x5.out)
              have HZ6x6 := hide (show (World.alloc v5 (Obj.cells #[.int .u8 0, .int .i64 0, .int .u64 0, .int .i64 0, .int .i64 0] 37)).heap[v5.heap.size]? = some (.cells (tagC 0 0 0 0 0) 37 (0, 0)) from heapNew v5 (Obj.cells #[.int .u8 0, .int .i64 0, .int .u64 0, .int .i64 0, .int .i64 0] 37))
              have hn6 : w.heap.size + 1 < v5.heap.size ∧ pb < v5.heap.size := ⟨heap_lt HTx5.out.two, tabAt_lt HTx5.out.tab⟩
              have hzz : v0.heap.size < v5.heap.size := heap_lt HZ7x5.out
              generalize World.alloc v5 (Obj.cells #[.int .u8 0, .int .i64 0, .int .u64 0, .int .i64 0, .int .i64 0] 37) = v6 at *
              (try go_wp2_with fail)
              refine hK.out _ _ (SU.of HTx6.out) (fun hHeld => ?_)
              clear hK K hOld
              try simp only [Act.put, List.setIfInBounds_toArray, List.set_cons_zero, List.set_cons_succ]
              refine wpAnyH_ready (rs := [8]) (by kernel_rfl) (by simp) (AllReadyH.cons (o := { dst := none, op := Op.store 37 (Operand.tmp 8) (Operand.tmp 22), type := 0, pos := "law.go:107", after := #[{ on := 6, ground := Ground.data }, { on := 2, ground := Ground.data }, { on := 5, ground := Ground.chain }, { on := 0, ground := Ground.phase }, { on := 1, ground := Ground.phase }, { on := 2, ground := Ground.phase }, { on := 3, ground := Ground.textOnly Departure.lateStores }, { on := 4, ground := Ground.textOnly Departure.lateStoresUnsure }, { on := 5, ground := Ground.textOnly Departure.lateStoresUnsure }, { on := 6, ground := Ground.phase }, { on := 7, ground := Ground.phase }], guard := none }) rfl (fun K hK => ?_) AllReadyH.nil)
              have hOld := hide hHeld
              clear hHeld
              have HZ6x7 := hide (show (World.setRow v6 v5.heap.size (tagC tk tl s tp tn)).heap[v5.heap.size]? = some (.cells (tagC tk tl s tp tn) 37 (0, 0)) from setRow_heap _ _ _ _ _ _ HZ6x6.out)
              have HZ7x7 := hide ((setRow_other v6 v5.heap.size v0.heap.size (tagC tk tl s tp tn) (by omega)).trans HZ7x6.out)
              have HTx7 := hide (HTx6.out.row v5.heap.size (by omega) (by omega) (by omega) (by omega) (tagC tk tl s tp tn))
              refine wp_store_row 37 (.tmp 8) (.tmp 22) rfl (v5.heap.size) rfl (tagC tk tl s tp tn) rfl (tagC 0 0 0 0 0) HZ6x6.out (tag_size _ _ _ _ _) rfl (tagC_one _ _ _ _ _) ?_
              generalize (World.setRow v6 v5.heap.size (tagC tk tl s tp tn)) = v7 at *
              refine hK.out _ _ (SU.of HTx7.out) (fun hHeld => ?_)
              clear hK K hOld
              try simp only [Act.put, List.setIfInBounds_toArray, List.set_cons_zero, List.set_cons_succ]
              refine wpAnyH_ready (rs := [9]) (by kernel_rfl) (by simp) (AllReadyH.cons (o := { dst := none, op := Op.store 37 (Operand.tmp 9) (Operand.tmp 25), type := 0, pos := "law.go:107", after := #[{ on := 7, ground := Ground.data }, { on := 5, ground := Ground.data }, { on := 8, ground := Ground.chain }, { on := 0, ground := Ground.phase }, { on := 1, ground := Ground.phase }, { on := 2, ground := Ground.phase }, { on := 3, ground := Ground.phase }, { on := 4, ground := Ground.phase }, { on := 5, ground := Ground.phase }, { on := 6, ground := Ground.phase }, { on := 7, ground := Ground.phase }, { on := 8, ground := Ground.phase }], guard := none }) rfl (fun K hK => ?_) AllReadyH.nil)
              have hOld := hide hHeld
              clear hHeld
              have HZ7x8 := hide (show (World.setRow v7 v0.heap.size (tagC tk' tl' s' tp' tn')).heap[v0.heap.size]? = some (.cells (tagC tk' tl' s' tp' tn') 37 (0, 0)) from setRow_heap _ _ _ _ _ _ HZ7x7.out)
              have HZ6x8 := hide ((setRow_other v7 v0.heap.size v5.heap.size (tagC tk' tl' s' tp' tn') (by omega)).trans HZ6x7.out)
              have HTx8 := hide (HTx7.out.row v0.heap.size (by omega) (by omega) (by omega) (by omega) (tagC tk' tl' s' tp' tn'))
              refine wp_store_row 37 (.tmp 9) (.tmp 25) rfl (v0.heap.size) rfl (tagC tk' tl' s' tp' tn') rfl (tagC 0 0 0 0 0) HZ7x7.out (tag_size _ _ _ _ _) rfl (tagC_one _ _ _ _ _) ?_
              generalize (World.setRow v7 v0.heap.size (tagC tk' tl' s' tp' tn')) = v8 at *
              refine hK.out _ _ (SU.of HTx8.out) (fun hHeld => ?_)
              clear hK K hOld
              try simp only [Act.put, List.setIfInBounds_toArray, List.set_cons_zero, List.set_cons_succ]
              refine wpAnyH_done (by kernel_rfl) ?_ _
              go_wp2_with fail
              go_meet
              exact ⟨_, _, rfl, rfl, HZ6x8.out, HZ7x8.out, HTx8.out.tab, HTx8.out.below⟩
            · have hOld := hide hHeld
              clear hHeld
              go_simp
              have HTx5 := hide (HTx4.out.alloc (Obj.cells #[.int .u8 0, .int .i64 0, .int .u64 0, .int .i64 0, .int .i64 0] 37))
              have HZ7x5 := hide ((heap_old _ (Obj.cells #[.int .u8 0, .int .i64 0, .int .u64 0, .int .i64 0, .int .i64 0] 37) _ (heap_lt HZ7x4.out)).trans HZ7x4.out)
              have HZ6x5 := hide (show (World.alloc v4 (Obj.cells #[.int .u8 0, .int .i64 0, .int .u64 0, .int .i64 0, .int .i64 0] 37)).heap[v4.heap.size]? = some (.cells (tagC 0 0 0 0 0) 37 (0, 0)) from heapNew v4 (Obj.cells #[.int .u8 0, .int .i64 0, .int .u64 0, .int .i64 0, .int .i64 0] 37))
              have hn6 : w.heap.size + 1 < v4.heap.size ∧ pb < v4.heap.size := ⟨heap_lt HTx4.out.two, tabAt_lt HTx4.out.tab⟩
              have hzz : v0.heap.size < v4.heap.size := heap_lt HZ7x4.out
              generalize World.alloc v4 (Obj.cells #[.int .u8 0, .int .i64 0, .int .u64 0, .int .i64 0, .int .i64 0] 37) = v5 at *
              (try go_wp2_with fail)
              refine hK.out _ _ (SU.of HTx5.out) (fun hHeld => ?_)
              clear hK K hOld
              try simp only [Act.put, List.setIfInBounds_toArray, List.set_cons_zero, List.set_cons_succ]
              refine wpAnyH_ready (rs := [5]) (by kernel_rfl) (by simp) (AllReadyH.cons (o := { dst := some 25, op := Op.call { callee := Callee.value (Operand.func 10), args := #[Operand.tmp 24], argTypes := #[24] }, type := 37, pos := "law.go:107", after := #[{ on := 4, ground := Ground.data }, { on := 4, ground := Ground.chain }], guard := none }) rfl (fun K hK => ?_) AllReadyH.nil)
              have hOld := hide hHeld
              clear hHeld
              go_simp
              refine (HOF2.out _).mono ?_
              rintro e v6 ⟨rfl, hb⟩
              have HTx6 := hide (HTx5.out.kept hb)
              have HZ6x6 := hide ((hb.block _ (heap_lt HZ6x5.out)).trans HZ6x5.out)
              have HZ7x6 := hide ((hb.block _ (heap_lt HZ7x5.out)).trans HZ7x5.out)
              clear hb
              (try go_wp2_with fail)
              refine hK.out _ _ (SU.of HTx6.out) (fun hHeld => ?_)
              clear hK K hOld
              try simp only [Act.put, List.setIfInBounds_toArray, List.set_cons_zero, List.set_cons_succ]
              refine wpAnyH_ready (rs := [8]) (by kernel_rfl) (by simp) (AllReadyH.cons (o := { dst := none, op := Op.store 37 (Operand.tmp 8) (Operand.tmp 22), type := 0, pos := "law.go:107", after := #[{ on := 6, ground := Ground.data }, { on := 2, ground := Ground.data }, { on := 5, ground := Ground.chain }, { on := 0, ground := Ground.phase }, { on := 1, ground := Ground.phase }, { on := 2, ground := Ground.phase }, { on := 3, ground := Ground.textOnly Departure.lateStores }, { on := 4, ground := Ground.textOnly Departure.lateStoresUnsure }, { on := 5, ground := Ground.textOnly Departure.lateStoresUnsure }, { on := 6, ground := Ground.phase }, { on := 7, ground := Ground.phase }], guard := none }) rfl (fun K hK => ?_) AllReadyH.nil)
              have hOld := hide hHeld
              clear hHeld
              have HZ6x7 := hide (show (World.setRow v6 v4.heap.size (tagC tk tl s tp tn)).heap[v4.heap.size]? = some (.cells (tagC tk tl s tp tn) 37 (0, 0)) from setRow_heap _ _ _ _ _ _ HZ6x6.out)
              have HZ7x7 := hide ((setRow_other v6 v4.heap.size v0.heap.size (tagC tk tl s tp tn) (by omega)).trans HZ7x6.out)
              have HTx7 := hide (HTx6.out.row v4.heap.size (by omega) (by omega) (by omega) (by omega) (tagC tk tl s tp tn))
              refine wp_store_row 37 (.tmp 8) (.tmp 22) rfl (v4.heap.size) rfl (tagC tk tl s tp tn) rfl (tagC 0 0 0 0 0) HZ6x6.out (tag_size _ _ _ _ _) rfl (tagC_one _ _ _ _ _) ?_
              generalize (World.setRow v6 v4.heap.size (tagC tk tl s tp tn)) = v7 at *
              refine hK.out _ _ (SU.of HTx7.out) (fun hHeld => ?_)
              clear hK K hOld
              try simp only [Act.put, List.setIfInBounds_toArray, List.set_cons_zero, List.set_cons_succ]
              refine wpAnyH_ready (rs := [9]) (by kernel_rfl) (by simp) (AllReadyH.cons (o := { dst := none, op := Op.store 37 (Operand.tmp 9) (Operand.tmp 25), type := 0, pos := "law.go:107", after := #[{ on := 7, ground := Ground.data }, { on := 5, ground := Ground.data }, { on := 8, ground := Ground.chain }, { on := 0, ground := Ground.phase }, { on := 1, ground := Ground.phase }, { on := 2, ground := Ground.phase }, { on := 3, ground := Ground.phase }, { on := 4, ground := Ground.phase }, { on := 5, ground := Ground.phase }, { on := 6, ground := Ground.phase }, { on := 7, ground := Ground.phase }, { on := 8, ground := Ground.phase }], guard := none }) rfl (fun K hK => ?_) AllReadyH.nil)
              have hOld := hide hHeld
              clear hHeld
              have HZ7x8 := hide (show (World.setRow v7 v0.heap.size (tagC tk' tl' s' tp' tn')).heap[v0.heap.size]? = some (.cells (tagC tk' tl' s' tp' tn') 37 (0, 0)) from setRow_heap _ _ _ _ _ _ HZ7x7.out)
              have HZ6x8 := hide ((setRow_other v7 v0.heap.size v4.heap.size (tagC tk' tl' s' tp' tn') (by omega)).trans HZ6x7.out)
              have HTx8 := hide (HTx7.out.row v0.heap.size (by omega) (by omega) (by omega) (by omega) (tagC tk' tl' s' tp' tn'))
              refine wp_store_row 37 (.tmp 9) (.tmp 25) rfl (v0.heap.size) rfl (tagC tk' tl' s' tp' tn') rfl (tagC 0 0 0 0 0) HZ7x7.out (tag_size _ _ _ _ _) rfl (tagC_one _ _ _ _ _) ?_
              generalize (World.setRow v7 v0.heap.size (tagC tk' tl' s' tp' tn')) = v8 at *
              refine hK.out _ _ (SU.of HTx8.out) (fun hHeld => ?_)
              clear hK K hOld
              try simp only [Act.put, List.setIfInBounds_toArray, List.set_cons_zero, List.set_cons_succ]
              refine wpAnyH_done (by kernel_rfl) ?_ _
              go_wp2_with fail
              go_meet
              exact ⟨_, _, rfl, rfl, HZ6x8.out, HZ7x8.out, HTx8.out.tab, HTx8.out.below⟩
          · have hOld := hide hHeld
            clear hHeld
            go_simp
            have HTx4 := hide (HTx3.out.alloc (Obj.cells #[.int .u8 0, .int .i64 0, .int .u64 0, .int .i64 0, .int .i64 0] 37))
            have HZ7x4 := hide ((heap_old _ (Obj.cells #[.int .u8 0, .int .i64 0, .int .u64 0, .int .i64 0, .int .i64 0] 37) _ (heap_lt HZ7x3.out)).trans HZ7x3.out)
            have HZ6x4 := hide (show (World.alloc v3 (Obj.cells #[.int .u8 0, .int .i64 0, .int .u64 0, .int .i64 0, .int .i64 0] 37)).heap[v3.heap.size]? = some (.cells (tagC 0 0 0 0 0) 37 (0, 0)) from heapNew v3 (Obj.cells #[.int .u8 0, .int .i64 0, .int .u64 0, .int .i64 0, .int .i64 0] 37))
            have hn6 : w.heap.size + 1 < v3.heap.size ∧ pb < v3.heap.size := ⟨heap_lt HTx3.out.two, tabAt_lt HTx3.out.tab⟩
            have hzz : v0.heap.size < v3.heap.size := heap_lt HZ7x3.out
            generalize World.alloc v3 (Obj.cells #[.int .u8 0, .int .i64 0, .int .u64 0, .int .i64 0, .int .i64 0] 37) = v4 at *
            (try go_wp2_with fail)
            refine hK.out _ _ (SU.of HTx4.out) (fun hHeld => ?_)
            clear hK K hOld
            try simp only [Act.put, List.setIfInBounds_toArray, List.set_cons_zero, List.set_cons_succ]
            refine wpAnyH_ready (rs := [4]) (by kernel_rfl) (by simp) (AllReadyH.cons (o := { dst := some 24, op := Op.call { callee := Callee.value (Operand.func 8), args := #[Operand.tmp 23], argTypes := #[24] }, type := 24, pos := "law.go:107", after := #[{ on := 3, ground := Ground.data }, { on := 2, ground := Ground.chain }], guard := none }) rfl (fun K hK => ?_) AllReadyH.nil)
            have hOld := hide hHeld
            clear hHeld
            go_simp
            refine (HTA2.out _).mono ?_
            rintro e v5 ⟨rfl, hb⟩
            have HTx5 := hide (HTx4.out.kept hb)
            have HZ6x5 := hide ((hb.block _ (heap_lt HZ6x4.out)).trans HZ6x4.out)
            have HZ7x5 := hide ((hb.block _ (heap_lt HZ7x4.out)).trans HZ7x4.out)
            clear hb
            (try go_wp2_with fail)
            refine hK.out _ _ (SU.of HTx5.out) (fun hHeld => ?_)
            clear hK K hOld
            try simp only [Act.put, List.setIfInBounds_toArray, List.set_cons_zero, List.set_cons_succ]
            refine wpAnyH_ready (rs := [5]) (by kernel_rfl) (by simp) (AllReadyH.cons (o := { dst := some 25, op := Op.call { callee := Callee.value (Operand.func 10), args := #[Operand.tmp 24], argTypes := #[24] }, type := 37, pos := "law.go:107", after := #[{ on := 4, ground := Ground.data }, { on := 4, ground := Ground.chain }], guard := none }) rfl (fun K hK => ?_) AllReadyH.nil)
            have hOld := hide hHeld
            clear hHeld
            go_simp
            refine (HOF2.out _).mono ?_
            rintro e v6 ⟨rfl, hb⟩
            have HTx6 := hide (HTx5.out.kept hb)
            have HZ6x6 := hide ((hb.block _ (heap_lt HZ6x5.out)).trans HZ6x5.out)
            have HZ7x6 := hide ((hb.block _ (heap_lt HZ7x5.out)).trans HZ7x5.out)
            clear hb
            (try go_wp2_with fail)
            refine hK.out _ _ (SU.of HTx6.out) (fun hHeld => ?_)
            clear hK K hOld
            try simp only [Act.put, List.setIfInBounds_toArray, List.set_cons_zero, List.set_cons_succ]
            refine wpAnyH_ready (rs := [8]) (by kernel_rfl) (by simp) (AllReadyH.cons (o := { dst := none, op := Op.store 37 (Operand.tmp 8) (Operand.tmp 22), type := 0, pos := "law.go:107", after := #[{ on := 6, ground := Ground.data }, { on := 2, ground := Ground.data }, { on := 5, ground := Ground.chain }, { on := 0, ground := Ground.phase }, { on := 1, ground := Ground.phase }, { on := 2, ground := Ground.phase }, { on := 3, ground := Ground.textOnly Departure.lateStores }, { on := 4, ground := Ground.textOnly Departure.lateStoresUnsure }, { on := 5, ground := Ground.textOnly Departure.lateStoresUnsure }, { on := 6, ground := Ground.phase }, { on := 7, ground := Ground.phase }], guard := none }) rfl (fun K hK => ?_) AllReadyH.nil)
            have hOld := hide hHeld
            clear hHeld
            have HZ6x7 := hide (show (World.setRow v6 v3.heap.size (tagC tk tl s tp tn)).heap[v3.heap.size]? = some (.cells (tagC tk tl s tp tn) 37 (0, 0)) from setRow_heap _ _ _ _ _ _ HZ6x6.out)
            have HZ7x7 := hide ((setRow_other v6 v3.heap.size v0.heap.size (tagC tk tl s tp tn) (by omega)).trans HZ7x6.out)
            have HTx7 := hide (HTx6.out.row v3.heap.size (by omega) (by omega) (by omega) (by omega) (tagC tk tl s tp tn))
            refine wp_store_row 37 (.tmp 8) (.tmp 22) rfl (v3.heap.size) rfl (tagC tk tl s tp tn) rfl (tagC 0 0 0 0 0) HZ6x6.out (tag_size _ _ _ _ _) rfl (tagC_one _ _ _ _ _) ?_
            generalize (World.setRow v6 v3.heap.size (tagC tk tl s tp tn)) = v7 at *
            refine hK.out _ _ (SU.of HTx7.out) (fun hHeld => ?_)
            clear hK K hOld
            try simp only [Act.put, List.setIfInBounds_toArray, List.set_cons_zero, List.set_cons_succ]
            refine wpAnyH_ready (rs := [9]) (by kernel_rfl) (by simp) (AllReadyH.cons (o := { dst := none, op := Op.store 37 (Operand.tmp 9) (Operand.tmp 25), type := 0, pos := "law.go:107", after := #[{ on := 7, ground := Ground.data }, { on := 5, ground := Ground.data }, { on := 8, ground := Ground.chain }, { on := 0, ground := Ground.phase }, { on := 1, ground := Ground.phase }, { on := 2, ground := Ground.phase }, { on := 3, ground := Ground.phase }, { on := 4, ground := Ground.phase }, { on := 5, ground := Ground.phase }, { on := 6, ground := Ground.phase }, { on := 7, ground := Ground.phase }, { on := 8, ground := Ground.phase }], guard := none }) rfl (fun K hK => ?_) AllReadyH.nil)
            have hOld := hide hHeld
            clear hHeld
            have HZ7x8 := hide (show (World.setRow v7 v0.heap.size (tagC tk' tl' s' tp' tn')).heap[v0.heap.size]? = some (.cells (tagC tk' tl' s' tp' tn') 37 (0, 0)) from setRow_heap _ _ _ _ _ _ HZ7x7.out)
            have HZ6x8 := hide ((setRow_other v7 v0.heap.size v3.heap.size (tagC tk' tl' s' tp' tn') (by omega)).trans HZ6x7.out)
            have HTx8 := hide (HTx7.out.row v0.heap.size (by omega) (by omega) (by omega) (by omega) (tagC tk' tl' s' tp' tn'))
            refine wp_store_row 37 (.tmp 9) (.tmp 25) rfl (v0.heap.size) rfl (tagC tk' tl' s' tp' tn') rfl (tagC 0 0 0 0 0) HZ7x7.out (tag_size _ _ _ _ _) rfl (tagC_one _ _ _ _ _) ?_
            generalize (World.setRow v7 v0.heap.size (tagC tk' tl' s' tp' tn')) = v8 at *
            refine hK.out _ _ (SU.of HTx8.out) (fun hHeld => ?_)
            clear hK K hOld
            try simp only [Act.put, List.setIfInBounds_toArray, List.set_cons_zero, List.set_cons_succ]
            refine wpAnyH_done (by kernel_rfl) ?_ _
            go_wp2_with fail
            go_meet
            exact ⟨_, _, rfl, rfl, HZ6x8.out, HZ7x8.out, HTx8.out.tab, HTx8.out.below⟩
        · have hOld := hide hHeld
          clear hHeld
          go_simp
          have HTx3 := hide (HTx2.out.alloc (Obj.cells #[.int .u8 0, .int .i64 0, .int .u64 0, .int .i64 0, .int .i64 0] 37))
          have HZ7x3 := hide ((heap_old _ (Obj.cells #[.int .u8 0, .int .i64 0, .int .u64 0, .int .i64 0, .int .i64 0] 37) _ (heap_lt HZ7x2.out)).trans HZ7x2.out)
          have HZ6x3 := hide (show (World.alloc v2 (Obj.cells #[.int .u8 0, .int .i64 0, .int .u64 0, .int .i64 0, .int .i64 0] 37)).heap[v2.heap.size]? = some (.cells (tagC 0 0 0 0 0) 37 (0, 0)) from heapNew v2 (Obj.cells #[.int .u8 0, .int .i64 0, .int .u64 0, .int .i64 0, .int .i64 0] 37))
          have hn6 : w.heap.size + 1 < v2.heap.size ∧ pb < v2.heap.size := ⟨heap_lt HTx2.out.two, tabAt_lt HTx2.out.tab⟩
          have hzz : v0.heap.size < v2.heap.size := heap_lt HZ7x2.out
          generalize World.alloc v2 (Obj.cells #[.int .u8 0, .int .i64 0, .int .u64 0, .int .i64 0, .int .i64 0] 37) = v3 at *
          (try go_wp2_with fail)
          refine hK.out _ _ (SU.of HTx3.out) (fun hHeld => ?_)
          clear hK K hOld
          try simp only [Act.put, List.setIfInBounds_toArray, List.set_cons_zero, List.set_cons_succ]
          refine wpAnyH_ready (rs := [2]) (by kernel_rfl) (by simp) (AllReadyH.cons (o := { dst := some 22, op := Op.call { callee := Callee.value (Operand.func 10), args := #[Operand.tmp 21], argTypes := #[24] }, type := 37, pos := "law.go:107", after := #[{ on := 1, ground := Ground.data }, { on := 1, ground := Ground.chain }], guard := none }) rfl (fun K hK => ?_) AllReadyH.nil)
          have hOld := hide hHeld
          clear hHeld
          go_simp
          refine (HOF.out _).mono ?_
          rintro e v4 ⟨rfl, hb⟩
          have HTx4 := hide (HTx3.out.kept hb)
          have HZ6x4 := hide ((hb.block _ (heap_lt HZ6x3.out)).trans HZ6x3.out)
          have HZ7x4 := hide ((hb.block _ (heap_lt HZ7x3.out)).trans HZ7x3.out)
          clear hb
          (try go_wp2_with fail)
          refine hK.out _ _ (SU.of HTx4.out) (fun hHeld => ?_)
          clear hK K hOld
          try simp only [Act.put, List.setIfInBounds_toArray, List.set_cons_zero, List.set_cons_succ]
          refine wpAnyH_ready (rs := [4]) (by kernel_rfl) (by simp) (AllReadyH.cons (o := { dst := some 24, op := Op.call { callee := Callee.value (Operand.func 8), args := #[Operand.tmp 23], argTypes := #[24] }, type := 24, pos := "law.go:107", after := #[{ on := 3, ground := Ground.data }, { on := 2, ground := Ground.chain }], guard := none }) rfl (fun K hK => ?_) AllReadyH.nil)
          have hOld := hide hHeld
          clear hHeld
          go_simp
          refine (HTA2.out _).mono ?_
          rintro e v5 ⟨rfl, hb⟩
          have HTx5 := hide (HTx4.out.kept hb)
          have HZ6x5 := hide ((hb.block _ (heap_lt HZ6x4.out)).trans HZ6x4.out)
          have HZ7x5 := hide ((hb.block _ (heap_lt HZ7x4.out)).trans HZ7x4.out)
          clear hb
          (try go_wp2_with fail)
          refine hK.out _ _ (SU.of HTx5.out) (fun hHeld => ?_)
          clear hK K hOld
          try simp only [Act.put, List.setIfInBounds_toArray, List.set_cons_zero, List.set_cons_succ]
          refine wpAnyH_ready (rs := [5]) (by kernel_rfl) (by simp) (AllReadyH.cons (o := { dst := some 25, op := Op.call { callee := Callee.value (Operand.func 10), args := #[Operand.tmp 24], argTypes := #[24] }, type := 37, pos := "law.go:107", after := #[{ on := 4, ground := Ground.data }, { on := 4, ground := Ground.chain }], guard := none }) rfl (fun K hK => ?_) AllReadyH.nil)
          have hOld := hide hHeld
          clear hHeld
          go_simp
          refine (HOF2.out _).mono ?_
          rintro e v6 ⟨rfl, hb⟩
          have HTx6 := hide (HTx5.out.kept hb)
          have HZ6x6 := hide ((hb.block _ (heap_lt HZ6x5.out)).trans HZ6x5.out)
          have HZ7x6 := hide ((hb.block _ (heap_lt HZ7x5.out)).trans HZ7x5.out)
          clear hb
          (try go_wp2_with fail)
          refine hK.out _ _ (SU.of HTx6.out) (fun hHeld => ?_)
          clear hK K hOld
          try simp only [Act.put, List.setIfInBounds_toArray, List.set_cons_zero, List.set_cons_succ]
          refine wpAnyH_ready (rs := [8]) (by kernel_rfl) (by simp) (AllReadyH.cons (o := { dst := none, op := Op.store 37 (Operand.tmp 8) (Operand.tmp 22), type := 0, pos := "law.go:107", after := #[{ on := 6, ground := Ground.data }, { on := 2, ground := Ground.data }, { on := 5, ground := Ground.chain }, { on := 0, ground := Ground.phase }, { on := 1, ground := Ground.phase }, { on := 2, ground := Ground.phase }, { on := 3, ground := Ground.textOnly Departure.lateStores }, { on := 4, ground := Ground.textOnly Departure.lateStoresUnsure }, { on := 5, ground := Ground.textOnly Departure.lateStoresUnsure }, { on := 6, ground := Ground.phase }, { on := 7, ground := Ground.phase }], guard := none }) rfl (fun K hK => ?_) AllReadyH.nil)
          have hOld := hide hHeld
          clear hHeld
          have HZ6x7 := hide (show (World.setRow v6 v2.heap.size (tagC tk tl s tp tn)).heap[v2.heap.size]? = some (.cells (tagC tk tl s tp tn) 37 (0, 0)) from setRow_heap _ _ _ _ _ _ HZ6x6.out)
          have HZ7x7 := hide ((setRow_other v6 v2.heap.size v0.heap.size (tagC tk tl s tp tn) (by omega)).trans HZ7x6.out)
          have HTx7 := hide (HTx6.out.row v2.heap.size (by omega) (by omega) (by omega) (by omega) (tagC tk tl s tp tn))
          refine wp_store_row 37 (.tmp 8) (.tmp 22) rfl (v2.heap.size) rfl (tagC tk tl s tp tn) rfl (tagC 0 0 0 0 0) HZ6x6.out (tag_size _ _ _ _ _) rfl (tagC_one _ _ _ _ _) ?_
          generalize (World.setRow v6 v2.heap.size (tagC tk tl s tp tn)) = v7 at *
          refine hK.out _ _ (SU.of HTx7.out) (fun hHeld => ?_)
          clear hK K hOld
          try simp only [Act.put, List.setIfInBounds_toArray, List.set_cons_zero, List.set_cons_succ]
          refine wpAnyH_ready (rs := [9]) (by kernel_rfl) (by simp) (AllReadyH.cons (o := { dst := none, op := Op.store 37 (Operand.tmp 9) (Operand.tmp 25), type := 0, pos := "law.go:107", after := #[{ on := 7, ground := Ground.data }, { on := 5, ground := Ground.data }, { on := 8, ground := Ground.chain }, { on := 0, ground := Ground.phase }, { on := 1, ground := Ground.phase }, { on := 2, ground := Ground.phase }, { on := 3, ground := Ground.phase }, { on := 4, ground := Ground.phase }, { on := 5, ground := Ground.phase }, { on := 6, ground := Ground.phase }, { on := 7, ground := Ground.phase }, { on := 8, ground := Ground.phase }], guard := none }) rfl (fun K hK => ?_) AllReadyH.nil)
          have hOld := hide hHeld
          clear hHeld
          have HZ7x8 := hide (show (World.setRow v7 v0.heap.size (tagC tk' tl' s' tp' tn')).heap[v0.heap.size]? = some (.cells (tagC tk' tl' s' tp' tn') 37 (0, 0)) from setRow_heap _ _ _ _ _ _ HZ7x7.out)
          have HZ6x8 := hide ((setRow_other v7 v0.heap.size v2.heap.size (tagC tk' tl' s' tp' tn') (by omega)).trans HZ6x7.out)
          have HTx8 := hide (HTx7.out.row v0.heap.size (by omega) (by omega) (by omega) (by omega) (tagC tk' tl' s' tp' tn'))
          refine wp_store_row 37 (.tmp 9) (.tmp 25) rfl (v0.heap.size) rfl (tagC tk' tl' s' tp' tn') rfl (tagC 0 0 0 0 0) HZ7x7.out (tag_size _ _ _ _ _) rfl (tagC_one _ _ _ _ _) ?_
          generalize (World.setRow v7 v0.heap.size (tagC tk' tl' s' tp' tn')) = v8 at *
          refine hK.out _ _ (SU.of HTx8.out) (fun hHeld => ?_)
          clear hK K hOld
          try simp only [Act.put, List.setIfInBounds_toArray, List.set_cons_zero, List.set_cons_succ]
          refine wpAnyH_done (by kernel_rfl) ?_ _
          go_wp2_with fail
          go_meet
          exact ⟨_, _, rfl, rfl, HZ6x8.out, HZ7x8.out, HTx8.out.tab, HTx8.out.below⟩
      · have hOld := hide hHeld
        clear hHeld
        go_simp
        have HTx2 := hide (HTx1.out.alloc (Obj.cells #[.int .u8 0, .int .i64 0, .int .u64 0, .int .i64 0, .int .i64 0] 37))
        have HZ7x2 := hide ((heap_old _ (Obj.cells #[.int .u8 0, .int .i64 0, .int .u64 0, .int .i64 0, .int .i64 0] 37) _ (heap_lt HZ7x1.out)).trans HZ7x1.out)
        have HZ6x2 := hide (show (World.alloc v1 (Obj.cells #[.int .u8 0, .int .i64 0, .int .u64 0, .int .i64 0, .int .i64 0] 37)).heap[v1.heap.size]? = some (.cells (tagC 0 0 0 0 0) 37 (0, 0)) from heapNew v1 (Obj.cells #[.int .u8 0, .int .i64 0, .int .u64 0, .int .i64 0, .int .i64 0] 37))
        have hn6 : w.heap.size + 1 < v1.heap.size ∧ pb < v1.heap.size := ⟨heap_lt HTx1.out.two, tabAt_lt HTx1.out.tab⟩
        have hzz : v0.heap.size < v1.heap.size := heap_lt HZ7x1.out
        generalize World.alloc v1 (Obj.cells #[.int .u8 0, .int .i64 0, .int .u64 0, .int .i64 0, .int .i64 0] 37) = v2 at *
        (try go_wp2_with fail)
        refine hK.out _ _ (SU.of HTx2.out) (fun hHeld => ?_)
        clear hK K hOld
        try simp only [Act.put, List.setIfInBounds_toArray, List.set_cons_zero, List.set_cons_succ]
        refine wpAnyH_ready (rs := [1]) (by kernel_rfl) (by simp) (AllReadyH.cons (o := { dst := some 21, op := Op.call { callee := Callee.value (Operand.func 8), args := #[Operand.tmp 20], argTypes := #[24] }, type := 24, pos := "law.go:107", after := #[{ on := 0, ground := Ground.data }], guard := none }) rfl (fun K hK => ?_) AllReadyH.nil)
        have hOld := hide hHeld
        clear hHeld
        go_simp
        refine (HTA.out _).mono ?_
        rintro e v3 ⟨rfl, hb⟩
        have HTx3 := hide (HTx2.out.kept hb)
        have HZ6x3 := hide ((hb.block _ (heap_lt HZ6x2.out)).trans HZ6x2.out)
        have HZ7x3 := hide ((hb.block _ (heap_lt HZ7x2.out)).trans HZ7x2.out)
        clear hb
        (try go_wp2_with fail)
        refine hK.out _ _ (SU.of HTx3.out) (fun hHeld => ?_)
        clear hK K hOld
        try simp only [Act.put, List.setIfInBounds_toArray, List.set_cons_zero, List.set_cons_succ]
        refine wpAnyH_ready (rs := [2]) (by kernel_rfl) (by simp) (AllReadyH.cons (o := { dst := some 22, op := Op.call { callee := Callee.value (Operand.func 10), args := #[Operand.tmp 21], argTypes := #[24] }, type := 37, pos := "law.go:107", after := #[{ on := 1, ground := Ground.data }, { on := 1, ground := Ground.chain }], guard := none }) rfl (fun K hK => ?_) AllReadyH.nil)
        have hOld := hide hHeld
        clear hHeld
        go_simp
        refine (HOF.out _).mono ?_
        rintro e v4 ⟨rfl, hb⟩
        have HTx4 := hide (HTx3.out.kept hb)
        have HZ6x4 := hide ((hb.block _ (heap_lt HZ6x3.out)).trans HZ6x3.out)
        have HZ7x4 := hide ((hb.block _ (heap_lt HZ7x3.out)).trans HZ7x3.out)
        clear hb
        (try go_wp2_with fail)
        refine hK.out _ _ (SU.of HTx4.out) (fun hHeld => ?_)
        clear hK K hOld
        try simp only [Act.put, List.setIfInBounds_toArray, List.set_cons_zero, List.set_cons_succ]
        refine wpAnyH_ready (rs := [4]) (by kernel_rfl) (by simp) (AllReadyH.cons (o := { dst := some 24, op := Op.call { callee := Callee.value (Operand.func 8), args := #[Operand.tmp 23], argTypes := #[24] }, type := 24, pos := "law.go:107", after := #[{ on := 3, ground := Ground.data }, { on := 2, ground := Ground.chain }], guard := none }) rfl (fun K hK => ?_) AllReadyH.nil)
        have hOld := hide hHeld
        clear hHeld
        go_simp
        refine (HTA2.out _).mono ?_
        rintro e v5 ⟨rfl, hb⟩
        have HTx5 := hide (HTx4.out.kept hb)
        have HZ6x5 := hide ((hb.block _ (heap_lt HZ6x4.out)).trans HZ6x4.out)
        have HZ7x5 := hide ((hb.block _ (heap_lt HZ7x4.out)).trans HZ7x4.out)
        clear hb
        (try go_wp2_with fail)
        refine hK.out _ _ (SU.of HTx5.out) (fun hHeld => ?_)
        clear hK K hOld
        try simp only [Act.put, List.setIfInBounds_toArray, List.set_cons_zero, List.set_cons_succ]
        refine wpAnyH_ready (rs := [5]) (by kernel_rfl) (by simp) (AllReadyH.cons (o := { dst := some 25, op := Op.call { callee := Callee.value (Operand.func 10), args := #[Operand.tmp 24], argTypes := #[24] }, type := 37, pos := "law.go:107", after := #[{ on := 4, ground := Ground.data }, { on := 4, ground := Ground.chain }], guard := none }) rfl (fun K hK => ?_) AllReadyH.nil)
        have hOld := hide hHeld
        clear hHeld
        go_simp
        refine (HOF2.out _).mono ?_
        rintro e v6 ⟨rfl, hb⟩
        have HTx6 := hide (HTx5.out.kept hb)
        have HZ6x6 := hide ((hb.block _ (heap_lt HZ6x5.out)).trans HZ6x5.out)
        have HZ7x6 := hide ((hb.block _ (heap_lt HZ7x5.out)).trans HZ7x5.out)
        clear hb
        (try go_wp2_with fail)
        refine hK.out _ _ (SU.of HTx6.out) (fun hHeld => ?_)
        clear hK K hOld
        try simp only [Act.put, List.setIfInBounds_toArray, List.set_cons_zero, List.set_cons_succ]
        refine wpAnyH_ready (rs := [8]) (by kernel_rfl) (by simp) (AllReadyH.cons (o := { dst := none, op := Op.store 37 (Operand.tmp 8) (Operand.tmp 22), type := 0, pos := "law.go:107", after := #[{ on := 6, ground := Ground.data }, { on := 2, ground := Ground.data }, { on := 5, ground := Ground.chain }, { on := 0, ground := Ground.phase }, { on := 1, ground := Ground.phase }, { on := 2, ground := Ground.phase }, { on := 3, ground := Ground.textOnly Departure.lateStores }, { on := 4, ground := Ground.textOnly Departure.lateStoresUnsure }, { on := 5, ground := Ground.textOnly Departure.lateStoresUnsure }, { on := 6, ground := Ground.phase }, { on := 7, ground := Ground.phase }], guard := none }) rfl (fun K hK => ?_) AllReadyH.nil)
        have hOld := hide hHeld
        clear hHeld
        have HZ6x7 := hide (show (World.setRow v6 v1.heap.size (tagC tk tl s tp tn)).heap[v1.heap.size]? = some (.cells (tagC tk tl s tp tn) 37 (0, 0)) from setRow_heap _ _ _ _ _ _ HZ6x6.out)
        have HZ7x7 := hide ((setRow_other v6 v1.heap.size v0.heap.size (tagC tk tl s tp tn) (by omega)).trans HZ7x6.out)
        have HTx7 := hide (HTx6.out.row v1.heap.size (by omega) (by omega) (by omega) (by omega) (tagC tk tl s tp tn))
        refine wp_store_row 37 (.tmp 8) (.tmp 22) rfl (v1.heap.size) rfl (tagC tk tl s tp tn) rfl (tagC 0 0 0 0 0) HZ6x6.out (tag_size _ _ _ _ _) rfl (tagC_one _ _ _ _ _) ?_
        generalize (World.setRow v6 v1.heap.size (tagC tk tl s tp tn)) = v7 at *
        refine hK.out _ _ (SU.of HTx7.out) (fun hHeld => ?_)
        clear hK K hOld
        try simp only [Act.put, List.setIfInBounds_toArray, List.set_cons_zero, List.set_cons_succ]
        refine wpAnyH_ready (rs := [9]) (by kernel_rfl) (by simp) (AllReadyH.cons (o := { dst := none, op := Op.store 37 (Operand.tmp 9) (Operand.tmp 25), type := 0, pos := "law.go:107", after := #[{ on := 7, ground := Ground.data }, { on := 5, ground := Ground.data }, { on := 8, ground := Ground.chain }, { on := 0, ground := Ground.phase }, { on := 1, ground := Ground.phase }, { on := 2, ground := Ground.phase }, { on := 3, ground := Ground.phase }, { on := 4, ground := Ground.phase }, { on := 5, ground := Ground.phase }, { on := 6, ground := Ground.phase }, { on := 7, ground := Ground.phase }, { on := 8, ground := Ground.phase }], guard := none }) rfl (fun K hK => ?_) AllReadyH.nil)
        have hOld := hide hHeld
        clear hHeld
        have HZ7x8 := hide (show (World.setRow v7 v0.heap.size (tagC tk' tl' s' tp' tn')).heap[v0.heap.size]? = some (.cells (tagC tk' tl' s' tp' tn') 37 (0, 0)) from setRow_heap _ _ _ _ _ _ HZ7x7.out)
        have HZ6x8 := hide ((setRow_other v7 v0.heap.size v1.heap.size (tagC tk' tl' s' tp' tn') (by omega)).trans HZ6x7.out)
        have HTx8 := hide (HTx7.out.row v0.heap.size (by omega) (by omega) (by omega) (by omega) (tagC tk' tl' s' tp' tn'))
        refine wp_store_row 37 (.tmp 9) (.tmp 25) rfl (v0.heap.size) rfl (tagC tk' tl' s' tp' tn') rfl (tagC 0 0 0 0 0) HZ7x7.out (tag_size _ _ _ _ _) rfl (tagC_one _ _ _ _ _) ?_
        generalize (World.setRow v7 v0.heap.size (tagC tk' tl' s' tp' tn')) = v8 at *
        refine hK.out _ _ (SU.of HTx8.out) (fun hHeld => ?_)
        clear hK K hOld
        try simp only [Act.put, List.setIfInBounds_toArray, List.set_cons_zero, List.set_cons_succ]
        refine wpAnyH_done (by kernel_rfl) ?_ _
        go_wp2_with fail
        go_meet
        exact ⟨_, _, rfl, rfl, HZ6x8.out, HZ7x8.out, HTx8.out.tab, HTx8.out.below⟩
  case rest =>
    obtain ⟨A8, A9, rfl, rfl, h8, h9, ht, hb⟩ := hcut
    have H8 := hide h8
    have H9 := hide h9
    have HT := hide ht
    have HB := hide hb
    clear h8 h9 ht hb HT3 HTA HTA2 HOF HOF2
    have HF := hide (fun W h => frame_ok pb 0 tk tl s tp tn hok s0 s1 D (by omega) W h)
    have HF2 := hide (fun W h => frame_ok pb 0 tk' tl' s' tp' tn' hok' s0' s1' D (by omega) W h)
    obtain ⟨⟨d0, d1, d2, d3, d4⟩, -, dl⟩ := tagC_cells H8.out
    go_wp2_with fail
    refine (HF.out _ HT.out).mono ?_
    rintro e w2 ⟨rfl, hb⟩
    have HT2 := hide (tabAt_kept HT.out hb)
    have H82 := hide ((hb.block _ (heap_lt H8.out)).trans H8.out)
    have H92 := hide ((hb.block _ (heap_lt H9.out)).trans H9.out)
    have HB2 := hide (below_trans HB.out hb)
    obtain ⟨⟨e0, e1, e2, e3, e4⟩, -, el⟩ := tagC_cells H92.out
    clear hb d0 d1 d2 d3 d4 dl HT H8 H9 HB HF
    go_wp2_with fail
    refine (HF2.out _ HT2.out).mono ?_
    rintro e w3 ⟨rfl, hb⟩
    have H83 := hide ((hb.block _ (heap_lt H82.out)).trans H82.out)
    have H93 := hide ((hb.block _ (heap_lt H92.out)).trans H92.out)
    have HB3 := hide (below_trans HB2.out hb)
    clear hb e0 e1 e2 e3 e4 el HT2 H82 H92 HB2 HF2
    go_wp2_with fail
    refine (wakes6 _).mono ?_
    rintro e w4 ⟨rfl, hb⟩
    have H84 := hide ((hb.block _ (heap_lt H83.out)).trans H83.out)
    have H94 := hide ((hb.block _ (heap_lt H93.out)).trans H93.out)
    have HB4 := hide (below_trans HB3.out hb)
    clear hb H83 H93 HB3
    obtain ⟨⟨d0, d1, d2, d3, d4⟩, -, dl⟩ := tagC_cells H84.out
    obtain ⟨⟨e0, e1, e2, e3, e4⟩, -, el⟩ := tagC_cells H94.out
    have hgu := guard_tag .eql
    obtain ⟨c, hc1, hc2⟩ : ∃ c : Bool, ((bs (frameL tk tl s tp tn D)).toList == (bs (frameL tk' tl' s' tp' tn' D)).toList) = c ∧ (tk == tk' && (tl == tl' && (s == s' && (tp == tp' && tn == tn')))) = c := by
      refine ⟨_, rfl, ?_⟩
      rw [Bool.eq_iff_iff, beq_iff_eq]
      simp only [Bool.and_eq_true, beq_iff_eq]
      constructor
      · rintro ⟨rfl, rfl, rfl, rfl, rfl⟩
        rfl
      · intro h
        rw [ByteArray.toList_eq, ByteArray.toList_eq, bs_toList, bs_toList] at h
        have h2 := congrArg (List.take 28) h
        rw [(frame_take tk tl s tp tn D).1, (frame_take tk' tl' s' tp' tn' D).1] at h2
        exact head_inj hok s0 s1 hok' s0' s1' h2
    have hq : ∀ W, (binOp .eql 37 (.agg #[.int .u8 tk, .int .i64 tl, .int .u64 s, .int .i64 tp, .int .i64 tn]) (.agg #[.int .u8 tk', .int .i64 tl', .int .u64 s', .int .i64 tp', .int .i64 tn'])).run Try.prog W = .ok (.bool c) W := fun W => by rw [eql_tag, hc2]
    clear hc2
    generalize frameL tk tl s tp tn D = fa at *
    generalize frameL tk' tl' s' tp' tn' D = fb at *
    go_wp2_with fail
    go_ret
    exact ⟨rfl, HB4.out⟩
theorem tagUnlike_all (v : Value) (hv : TagIn v) (u : Value) (hu : TagIn u) (data : ByteArray) (hd : data.size ≤ 9223372036854775807) (w : World) :
    Calls Try.prog 6 #[v, u, .string data] w fun e w' => e = .returned (.bool true) ∧ Below w.heap.size w w' := by
  obtain ⟨k, l, s, p, n, rfl, ⟨k0, k1⟩, s0, s1⟩ := hv
  obtain ⟨k', l', s', p', n', rfl, ⟨k0', k1'⟩, s0', s1'⟩ := hu
  exact tagUnlike_walk k l s p n k0 k1 s0 s1 k' l' s' p' n' k0' k1' s0' s1' data hd w

set_option maxRecDepth 100000 in
theorem tagUnlike_lifted (os : Os) (started : os.Started) (H : Type) (enc : TypeId × Value → H) :
    ReturnsInHanded {} Try.checked os 6 .any (Rows.tagUnlikeSpec.pre6 enc Try.prog Try.f6 Rows.tagUnlikeRow.domain false) (Rows.tagUnlikeSpec.post enc Try.prog Try.f6 false true false false) := by
  refine returnsInHanded_of_change (C := Try.checked) own started (by kernel_rfl) Try.func6
    (ChangeSpec.witness6 (enc := enc) (C := Try.checked) false ⟨#[], #[.agg #[.int .u8 0, .int .i64 0, .int .u64 0, .int .i64 0, .int .i64 0], .agg #[.int .u8 0, .int .i64 0, .int .u64 0, .int .i64 0, .int .i64 0], .string ⟨#[]⟩], []⟩ 8 (by kernel_rfl) (by kernel_rfl) (by kernel_rfl) (by kernel_rfl)) ?_
  intro W base args ds gs before hval0 hW _ _
  have hval : ∀ (j : Nat) t v, Try.f6.params[j]? = some t → args[j]? = some v → Value.okWide Try.prog W .any base t v := hval0
  have hW' := hW
  obtain ⟨p, q, hA0, hV, rfl, hfz, hnd⟩ := hW
  have hA : DataW.TrodAll enc Try.prog W 0 (fun _ => true) true Try.f6.params.toList args.toList ds p := hA0
  rw [Try.params6] at hA hval
  obtain ⟨v0, vs0, d0, ds0, p0, q0, hargs, rfl, rfl, h0, r0⟩ := trodAll_cons hA
  obtain ⟨v1, vs1, d1, ds1, p1, q1, rfl, rfl, rfl, h1, r1⟩ := trodAll_cons r0
  obtain ⟨v2, vs2, d2, ds2, p2, q2, rfl, rfl, rfl, h2, r2⟩ := trodAll_cons r1
  obtain ⟨rfl, rfl, rfl⟩ := trodAll_nil r2
  obtain rfl : args = #[v0, v1, v2] := by cases args; simp_all
  obtain ⟨rfl, rfl⟩ := trodVars_none hV
  have z0 := open_tag (hval 0 24 v0 rfl rfl) h0
  have z1 := open_tag (hval 1 24 v1 rfl rfl) h1
  obtain ⟨data, rfl, rfl, rfl, w2⟩ := ChangeMaps.open_string Try.underlying9 (hval 2 9 v2 rfl rfl) h2
  have z2 : data.size ≤ 9223372036854775807 := w2
  clear hA0 hval0
  refine (tagUnlike_all v0 z0 v1 z1 data z2 W).mono fun e W' ⟨he, hb⟩ => ?_
  subst he
  exact ⟨_, rfl, post_law laidOut (of_decide_eq_true (by kernel_rfl)) rfl rfl Try.underlying4 hW' ⟨rfl, rfl, rfl⟩ hb⟩

/-- THE STATEMENT -/
theorem tagUnlike_holds : Rows.TagUnlikeSaid :=
  OpenClaim.holds_of_wide 6 Try.f6 rfl rfl rfl rfl rfl rfl rfl ⟨rfl, rfl, rfl, rfl, rfl⟩ rfl rfl rfl rfl rfl (by kernel_rfl) Try.func6 (by kernel_rfl)
    (of_decide_eq_true (by kernel_rfl)) (by unfold Func.isWrapper; first | (rw [if_pos (by decide +kernel)]; kernel_rfl) | (rw [if_neg (by decide +kernel)]; exact ⟨rfl, rfl⟩))
    (fun os started H enc _ => tagUnlike_lifted os started H enc)

end Go.Proofs.Ytoigejgpagoghaa
