/-
  Layer 24, the program's calls: Put by contract.
-/
import Derived.Test.YtmomjefbifoliaaKeys3
import Derived.Test.YtmomjefbifoliaaKitO
import Derived.Lib.OwnKind
import Derived.Deep.Cut
namespace Go.Proofs.Ytmomjefbifoliaa
set_option linter.unusedSimpArgs false
set_option linter.unusedVariables false
open Go.RowKit Go.WideShapes Go.ChangeShapes Go.ChangeAt

theorem KeysAt.drew {w : World} {p B lim : Nat} {L : List Ent} {v : Value} (h : KeysAt w p B lim L v) : KeysAt w.drew p B lim L v := ⟨h.head, h.owns, h.base⟩
theorem KeysAt.apart {w : World} {p B lim : Nat} {L : List Ent} {v : Value} (h : KeysAt w p B lim L v) : v.ownBlock ≠ some p := fun e => by
  obtain ⟨c, fz, hc⟩ := Go.Lib.ownsRow_kind h.owns p e
  rw [h.head] at hc
  simp only [Option.some.injEq, Obj.cells.injEq] at hc
  exact absurd hc.2.1 (by decide)
theorem owns_not {w : World} {p B n : Nat} {v v' : Value} {xs : List Value} {c : Array Value} {fz : Nat × Nat} (h : w.ownsRow B 37 3 v n xs) (hp : w.heap[p]? = some (.cells c 58 fz)) : v.ownBlock ≠ some p := fun e => by
  obtain ⟨c', fz', hc⟩ := Go.Lib.ownsRow_kind h p e
  rw [hp] at hc
  simp only [Option.some.injEq, Obj.cells.injEq] at hc
  exact absurd hc.2.1 (by decide)
/-- the slice is another one from now on -/
theorem KeysAt.put {w : World} {p B lim : Nat} {v v' : Value} {L : List Ent} (h : w.heap[p]? = some (.cells #[.int .i64 (lim : Int), v] 58 (0, 0))) (ho : w.ownsRow B 37 3 v' L.length (L.flatMap entC)) (hB : B ≤ p) : KeysAt (w.setCell ⟨p, 1, none⟩ v') p B lim L v' := by
  refine ⟨?_, ownsRow_setCell_other ho (owns_not (v' := v) ho h) _, hB⟩
  rw [block_setCell h]
  rfl
theorem entry_block {w w' : World} {eb : Nat} {x : Array Value} (h : w.heap[eb]? = some (.cells x 37 (0, 0))) (hb : Below w.heap.size w w') : w'.heap[eb]? = some (.cells x 37 (0, 0)) := (hb.block _ (heap_lt h)).trans h
theorem grown_block {w w' : World} {o : Option Nat} {eb : Nat} {x : Obj} (h : w.heap[eb]? = some x) (hg : w.grownBy w' o) (hn : o ≠ some eb) : w'.heap[eb]? = some x := (hg.block eb (heap_lt h) (fun e => hn e.symm)).trans h
theorem own_ends {m a : Nat} {o : Option Nat} {g : Nat} (hg : o = some g ∨ a ≤ g) (hm : m ≤ a) : o = some g ∨ m ≤ g := hg.imp id (fun h => by omega)
/-- Put's turn: the new entry, the slice behind it, what has turned -/
def PutIs (p B lim : Nat) (L : List Ent) (v : Value) (w : World) (e : Ending) (w' : World) : Prop :=
  ∃ v', e = .returned (.int .i64 0) ∧ KeysAt w' p B lim L v' ∧ OnlyL (p :: v.ownBlock.toList) w w' ∧ ∀ j, v'.ownBlock = some j → v.ownBlock = some j ∨ w.heap.size ≤ j

set_option maxRecDepth 100000 in
set_option maxHeartbeats 400000 in
theorem put_ok (xk xn : Int) (xb : ByteArray) (hx : rightE ⟨xk, xb, xn⟩) (L : List Ent) (hL : L.length ≤ 900) (hnew : keyI L xk = -1) (lim : Nat) (h1 : 1 ≤ lim) (hl : lim ≤ 1000) (hlim : L.length ≤ lim) (p B : Nat) (v : Value) (w : World) (h : KeysAt w p B lim L v) (hB : B ≤ w.heap.size) :
    Calls Try.prog 10 #[.pointer (some ⟨p, 0, none⟩), .agg #[.int .u64 xk, .string xb, .int .i64 xn]] w (PutIs p B lim (putL' L lim ⟨xk, xb, xn⟩) v w) := by
  obtain ⟨i0, hi, hz0, hz1, hz2⟩ := info_parts (show (Try.prog.info? 37).map (fun i => (i.zero, i.size, i.bytes)) = some (some (.agg #[.int .u64 0, .string ⟨#[]⟩, .int .i64 0]), 3, 32) by kernel_rfl)
  have HI := hide hi
  have HZ0 := hide hz0
  have HZ1 := hide hz1
  have HZ2 := hide hz2
  obtain ⟨a, c, rfl⟩ := owns_shape h.owns
  obtain ⟨d, hd⟩ : ∃ d, L.length + 1 - lim = d := ⟨_, rfl⟩
  have hd2 : d = 0 ∨ d = 1 ∧ 2 ≤ (L ++ [Ent.mk xk xb xn]).length := by simp; omega
  have hLM : (L ++ [Ent.mk xk xb xn]).length = L.length + 1 := by simp
  have HLM := hide hLM
  have HDEL := hide (fun g c2 W ho => delete_any (L ++ [Ent.mk xk xb xn]) (by omega) d hd2 g c2 B W ho)
  have HPUT := hide (show putL' L lim ⟨xk, xb, xn⟩ = (L ++ [Ent.mk xk xb xn]).drop d by rw [putL', hd])
  have HBS := hide hB
  have HBP := hide h.base
  have HOB := hide (fun j hj => (h.owns.lt j hj).2)
  have HPL := hide h.lt
  have HK := hide h
  have hR := fun W => eright_yes xk xn xb hx W
  have hF := fun W (hW : KeysAt W p B lim L (.slice a L.length c)) => find_any L (by omega) p B lim (.slice a L.length c) xk W hW
  simp only [hnew] at hF
  have HR := hide hR
  have HF := hide hF
  have HD := hide hd
  clear hi hz0 hz1 hz2 hd2 hLM hB h hR hF hnew hx hd
  go_enter Try.func10, Try.ntmps10
  go_wp2_with fail
  have EB0 := hide (heap_new w (.cells #[.int .u64 xk, .string xb, .int .i64 xn] 37))
  have KA0 := hide (HK.out.below ((Below.refl w.heap.size w).alloc (Nat.le_refl _) (.cells #[.int .u64 xk, .string xb, .int .i64 xn] 37)))
  have BL0 := hide ((Below.refl w.heap.size w).alloc (Nat.le_refl _) (.cells #[.int .u64 xk, .string xb, .int .i64 xn] 37))
  have EBN := hide (show (Value.slice a L.length c).ownBlock ≠ some w.heap.size from fun e => by have := HOB.out _ e; omega)
  have EBP := hide (show p ≠ w.heap.size by have := HPL.out; omega)
  generalize w.alloc (.cells #[.int .u64 xk, .string xb, .int .i64 xn] 37) = w1 at *
  obtain ⟨eb, heb⟩ : ∃ eb, w.heap.size = eb := ⟨_, rfl⟩
  rw [heb] at EB0 EBN EBP
  simp only [heb]
  clear heb
  refine (HR.out _).mono ?_
  rintro e w2 ⟨rfl, hb⟩
  have EB1 := hide (entry_block EB0.out hb)
  have KA1 := hide (KA0.out.below hb)
  have BL1 := hide (below_trans BL0.out hb)
  clear hb EB0 KA0 BL0
  have e0 := cell_of_block EB1.out 0
  go_wp2_with fail
  refine (HF.out _ KA1.out).mono ?_
  rintro e w3 ⟨rfl, hb⟩
  have EB2 := hide (entry_block EB1.out hb)
  have KA2 := hide (KA1.out.below hb)
  have BL2 := hide (below_trans BL1.out hb)
  clear hb e0 EB1 KA1 BL1
  go_upto_region 7 with (fail)
  go_cut [] from 18 to 28 (fun W => ∃ g c2, KeysAt W p B lim (L ++ [Ent.mk xk xb xn]) (.slice (some ⟨g, 0, none⟩) (L.length + 1) c2) ∧ OnlyL (p :: (Value.slice a L.length c).ownBlock.toList) w W ∧ ((Value.slice a L.length c).ownBlock = some g ∨ w.heap.size ≤ g))
  case first =>
    have EBv0 := hide (show w3.drew.heap[eb]? = _ from EB2.out)
    have KAv0 := hide KA2.out.drew
    have OLv0 := hide (show OnlyL (p :: (Value.slice a L.length c).ownBlock.toList) w w3.drew from OnlyL.of_below BL2.out.drew)
    clear EB2 KA2 BL2
    refine wp_region_held_drew (S := (fun W => W.cell? ⟨eb, 0, none⟩ = some (.int .u64 xk) ∧ W.cell? ⟨eb, 1, none⟩ = some (.string xb) ∧ W.cell? ⟨eb, 2, none⟩ = some (.int .i64 xn))) (by kernel_rfl) (⟨cell_of_block EBv0.out 0, cell_of_block EBv0.out 1, cell_of_block EBv0.out 2⟩) (fun hHeld => ?_)
    generalize w3.drew = v0 at *
    refine wpAnyH_take (i := 0) (oi := { dst := some 18, op := Op.move (Operand.tmp 0), type := 23, pos := "keys.go:71", after := #[], guard := none }) (v := ?_) rfl (by kernel_rfl) (by kernel_rfl) (by kernel_rfl) (fun _ _ _ h => h) (Or.inl ⟨by kernel_rfl, ?_⟩) hHeld ?_
    rotate_left
    · (intro w hSw; (try dsimp only at hSw); go_simp); try with_reducible rfl
    try simp only [Act.put, List.setIfInBounds_toArray, List.set_cons_zero, List.set_cons_succ]
    refine wpAnyH_take (i := 1) (oi := { dst := some 19, op := Op.move (Operand.tmp 0), type := 23, pos := "keys.go:71", after := #[], guard := none }) (v := ?_) rfl (by kernel_rfl) (by kernel_rfl) (by kernel_rfl) (fun _ _ _ h => h) (Or.inl ⟨by kernel_rfl, ?_⟩) hHeld ?_
    rotate_left
    · (intro w hSw; (try dsimp only at hSw); go_simp); try with_reducible rfl
    try simp only [Act.put, List.setIfInBounds_toArray, List.set_cons_zero, List.set_cons_succ]
    refine wpAnyH_take (i := 2) (oi := { dst := some 20, op := Op.nilCheck (Operand.tmp 19), type := 0, pos := "keys.go:71", after := #[{ on := 1, ground := Ground.data }], guard := none }) (v := ?_) rfl (by kernel_rfl) (by kernel_rfl) (by kernel_rfl) (fun _ _ _ h => h) (Or.inl ⟨by kernel_rfl, ?_⟩) hHeld ?_
    rotate_left
    · (intro w hSw; (try dsimp only at hSw); go_simp); try with_reducible rfl
    try simp only [Act.put, List.setIfInBounds_toArray, List.set_cons_zero, List.set_cons_succ]
    refine wpAnyH_take (i := 3) (oi := { dst := some 21, op := Op.fieldAddr 58 (Operand.tmp 20) 1, type := 0, pos := "keys.go:71", after := #[{ on := 2, ground := Ground.data }], guard := none }) (v := ?_) rfl (by kernel_rfl) (by kernel_rfl) (by kernel_rfl) (fun _ _ _ h => h) (Or.inl ⟨by kernel_rfl, ?_⟩) hHeld ?_
    rotate_left
    · (intro w hSw; (try dsimp only at hSw); go_simp); try with_reducible rfl
    try simp only [Act.put, List.setIfInBounds_toArray, List.set_cons_zero, List.set_cons_succ]
    refine wpAnyH_take (i := 5) (oi := { dst := some 23, op := Op.load 37 (Operand.tmp 3), type := 37, pos := "keys.go:71", after := #[], guard := none }) (v := ?_) rfl (by kernel_rfl) (by kernel_rfl) (by kernel_rfl) (fun _ _ _ h => h) (Or.inl ⟨by kernel_rfl, ?_⟩) hHeld ?_
    rotate_left
    · (intro w hSw; (try dsimp only at hSw); go_simp); try with_reducible rfl
    try simp only [Act.put, List.setIfInBounds_toArray, List.set_cons_zero, List.set_cons_succ]
    refine wpAnyH_ready (rs := [4, 6]) (by kernel_rfl) (by simp) (AllReadyH.cons (o := { dst := some 22, op := Op.load 52 (Operand.tmp 21), type := 52, pos := "keys.go:71", after := #[{ on := 3, ground := Ground.data }], guard := none }) rfl (fun K hK => ?_) (AllReadyH.cons (o := { dst := some 24, op := Op.buildSlice 52 1 #[(0, Operand.tmp 23)], type := 52, pos := "keys.go:71", after := #[{ on := 5, ground := Ground.data }], guard := none }) rfl (fun K hK => ?_) AllReadyH.nil))
    · have hOld := hide hHeld
      clear hHeld
      have c1 := KAv0.out.cell1
      go_simp
      clear c1
      refine hK.out _ _ (⟨cell_of_block EBv0.out 0, cell_of_block EBv0.out 1, cell_of_block EBv0.out 2⟩) (fun hHeld => ?_)
      clear hK K hOld
      try simp only [Act.put, List.setIfInBounds_toArray, List.set_cons_zero, List.set_cons_succ]
      refine wpAnyH_ready (rs := [6]) (by kernel_rfl) (by simp) (AllReadyH.cons (o := { dst := some 24, op := Op.buildSlice 52 1 #[(0, Operand.tmp 23)], type := 52, pos := "keys.go:71", after := #[{ on := 5, ground := Ground.data }], guard := none }) rfl (fun K hK => ?_) AllReadyH.nil)
      have hOld := hide hHeld
      clear hHeld
      go_simp
      have KAv6 := hide (KAv0.out.below ((Below.refl v0.heap.size v0).alloc (Nat.le_refl _) (.cells #[.int .u64 xk, .string xb, .int .i64 xn] 37)))
      have EBv6 := hide ((heap_old v0 (.cells #[.int .u64 xk, .string xb, .int .i64 xn] 37) _ (heap_lt EBv0.out)).trans EBv0.out)
      have OLv6 := hide (OLv0.out.alloc (.cells #[.int .u64 xk, .string xb, .int .i64 xn] 37))
      have XBv6 := hide (heap_new v0 (.cells #[.int .u64 xk, .string xb, .int .i64 xn] 37))
      generalize hq6 : World.alloc v0 (.cells #[.int .u64 xk, .string xb, .int .i64 xn] 37) = v6 at *
      generalize hb6 : v0.heap.size = bx at *
      clear hq6 hb6
      (try go_wp2_with fail)
      refine hK.out _ _ (⟨cell_of_block EBv6.out 0, cell_of_block EBv6.out 1, cell_of_block EBv6.out 2⟩) (fun hHeld => ?_)
      clear hK K hOld
      try simp only [Act.put, List.setIfInBounds_toArray, List.set_cons_zero, List.set_cons_succ]
      refine wpAnyH_ready (rs := [7]) (by kernel_rfl) (by simp) (AllReadyH.cons (o := { dst := some 25, op := Op.call { callee := Callee.builtin Builtin.append, args := #[Operand.tmp 22, Operand.tmp 24], argTypes := #[52, 52] }, type := 52, pos := "keys.go:71", after := #[{ on := 4, ground := Ground.data }, { on := 6, ground := Ground.data }], guard := none }) rfl (fun K hK => ?_) AllReadyH.nil)
      have hOld := hide hHeld
      clear hHeld
      refine wp_append_own2 _ (.tmp 22) (.tmp 24) 52 rfl B 37 i0 (.agg #[.int .u64 0, .string ⟨#[]⟩, .int .i64 0]) 3 32 Try.underlying52 HI.out HZ0.out HZ1.out HZ2.out rfl (by decide) (.slice a L.length c) L.length (L.flatMap entC) rfl KAv6.out.owns ⟨bx, 0, none⟩ 1 1 (by decide) [.int .u64 xk, .string xb, .int .i64 xn] rfl rfl (cells_new XBv6.out) (entC_one ⟨xk, xb, xn⟩) (by unfold maxLen; omega) (by omega) (Nat.le_trans HBS.out OLv6.out.size) ?_
      intro g c2 v7 ho hgr hgg
      have EBv7 := hide (grown_block EBv6.out hgr EBN.out)
      have HDv7 := hide (grown_block KAv6.out.head hgr KAv6.out.apart)
      have OLv7 := hide (OLv6.out.trans ((onlyL_of_grown hgr).mono (fun q hq => List.mem_cons_of_mem _ hq)))
      have OWv7 := hide (show v7.ownsRow B 37 3 (.slice (some ⟨g, 0, none⟩) (L ++ [Ent.mk xk xb xn]).length c2) (L ++ [Ent.mk xk xb xn]).length ((L ++ [Ent.mk xk xb xn]).flatMap entC) by rw [flat_snoc, List.length_append]; exact ho)
      have HGv7 := hide (own_ends hgg OLv6.out.size)
      clear ho hgr hgg
      refine hK.out _ _ (⟨cell_of_block EBv7.out 0, cell_of_block EBv7.out 1, cell_of_block EBv7.out 2⟩) (fun hHeld => ?_)
      clear hK K hOld
      try simp only [Act.put, List.setIfInBounds_toArray, List.set_cons_zero, List.set_cons_succ]
      refine wpAnyH_take (i := 8) (oi := { dst := some 26, op := Op.nilCheck (Operand.tmp 18), type := 0, pos := "keys.go:71", after := #[{ on := 0, ground := Ground.data }, { on := 0, ground := Ground.phase }, { on := 1, ground := Ground.phase }, { on := 2, ground := Ground.phase }, { on := 3, ground := Ground.phase }, { on := 4, ground := Ground.phase }, { on := 5, ground := Ground.phase }, { on := 6, ground := Ground.phase }, { on := 7, ground := Ground.phase }], guard := none }) (v := ?_) rfl (by kernel_rfl) (by kernel_rfl) (by kernel_rfl) (fun _ _ _ h => h) (Or.inl ⟨by kernel_rfl, ?_⟩) hHeld ?_
      rotate_left
      · (intro w hSw; (try dsimp only at hSw); go_simp); try with_reducible rfl
      try simp only [Act.put, List.setIfInBounds_toArray, List.set_cons_zero, List.set_cons_succ]
      refine wpAnyH_take (i := 9) (oi := { dst := some 27, op := Op.fieldAddr 58 (Operand.tmp 26) 1, type := 0, pos := "keys.go:71", after := #[{ on := 8, ground := Ground.data }, { on := 0, ground := Ground.phase }, { on := 1, ground := Ground.phase }, { on := 2, ground := Ground.phase }, { on := 3, ground := Ground.phase }, { on := 4, ground := Ground.phase }, { on := 5, ground := Ground.phase }, { on := 6, ground := Ground.phase }, { on := 7, ground := Ground.phase }], guard := none }) (v := ?_) rfl (by kernel_rfl) (by kernel_rfl) (by kernel_rfl) (fun _ _ _ h => h) (Or.inl ⟨by kernel_rfl, ?_⟩) hHeld ?_
      rotate_left
      · (intro w hSw; (try dsimp only at hSw); go_simp); try with_reducible rfl
      try simp only [Act.put, List.setIfInBounds_toArray, List.set_cons_zero, List.set_cons_succ]
      refine wpAnyH_ready (rs := [10]) (by kernel_rfl) (by simp) (AllReadyH.cons (o := { dst := none, op := Op.store 52 (Operand.tmp 27) (Operand.tmp 25), type := 0, pos := "keys.go:71", after := #[{ on := 9, ground := Ground.data }, { on := 7, ground := Ground.data }, { on := 7, ground := Ground.chain }, { on := 0, ground := Ground.phase }, { on := 1, ground := Ground.phase }, { on := 2, ground := Ground.phase }, { on := 3, ground := Ground.phase }, { on := 4, ground := Ground.phase }, { on := 5, ground := Ground.phase }, { on := 6, ground := Ground.phase }, { on := 7, ground := Ground.phase }], guard := none }) rfl (fun K hK => ?_) AllReadyH.nil)
      have hOld := hide hHeld
      clear hHeld
      have c1 := cell_of_block HDv7.out 1
      have f1 := frozen_of_block HDv7.out 1
      have KAv10 := hide (KeysAt.put HDv7.out OWv7.out HBP.out)
      have OLv10 := hide (OLv7.out.trans (OnlyL.setCell (a := v7) (q := p) (qs := p :: (Value.slice a L.length c).ownBlock.toList) (by simp) 1 (Value.slice (some ⟨g, 0, none⟩) (L.length + 1) c2)))
      have EBv10 := hide ((block_setCell_other (w := v7) (g := p) (b := eb) EBP.out 1 (.slice (some ⟨g, 0, none⟩) (L.length + 1) c2)).trans EBv7.out)
      rw [show (L ++ [Ent.mk xk xb xn]).length = L.length + 1 by simp] at KAv10
      go_simp
      clear c1 f1
      generalize v7.setCell ⟨p, 1, none⟩ (.slice (some ⟨g, 0, none⟩) (L.length + 1) c2) = v10 at *
      refine hK.out _ _ (⟨cell_of_block EBv10.out 0, cell_of_block EBv10.out 1, cell_of_block EBv10.out 2⟩) (fun hHeld => ?_)
      clear hK K hOld
      try simp only [Act.put, List.setIfInBounds_toArray, List.set_cons_zero, List.set_cons_succ]
      refine wpAnyH_done (by kernel_rfl) ?_ _
      go_wp2_with fail
      go_meet
      exact ⟨g, c2, KAv10.out, OLv10.out, HGv7.out⟩
    · have hOld := hide hHeld
      clear hHeld
      go_simp
      have KAv6 := hide (KAv0.out.below ((Below.refl v0.heap.size v0).alloc (Nat.le_refl _) (.cells #[.int .u64 xk, .string xb, .int .i64 xn] 37)))
      have EBv6 := hide ((heap_old v0 (.cells #[.int .u64 xk, .string xb, .int .i64 xn] 37) _ (heap_lt EBv0.out)).trans EBv0.out)
      have OLv6 := hide (OLv0.out.alloc (.cells #[.int .u64 xk, .string xb, .int .i64 xn] 37))
      have XBv6 := hide (heap_new v0 (.cells #[.int .u64 xk, .string xb, .int .i64 xn] 37))
      generalize hq6 : World.alloc v0 (.cells #[.int .u64 xk, .string xb, .int .i64 xn] 37) = v6 at *
      generalize hb6 : v0.heap.size = bx at *
      clear hq6 hb6
      (try go_wp2_with fail)
      refine hK.out _ _ (⟨cell_of_block EBv6.out 0, cell_of_block EBv6.out 1, cell_of_block EBv6.out 2⟩) (fun hHeld => ?_)
      clear hK K hOld
      try simp only [Act.put, List.setIfInBounds_toArray, List.set_cons_zero, List.set_cons_succ]
      refine wpAnyH_ready (rs := [4]) (by kernel_rfl) (by simp) (AllReadyH.cons (o := { dst := some 22, op := Op.load 52 (Operand.tmp 21), type := 52, pos := "keys.go:71", after := #[{ on := 3, ground := Ground.data }], guard := none }) rfl (fun K hK => ?_) AllReadyH.nil)
      have hOld := hide hHeld
      clear hHeld
      have c1 := KAv6.out.cell1
      go_simp
      clear c1
      refine hK.out _ _ (⟨cell_of_block EBv6.out 0, cell_of_block EBv6.out 1, cell_of_block EBv6.out 2⟩) (fun hHeld => ?_)
      clear hK K hOld
      try simp only [Act.put, List.setIfInBounds_toArray, List.set_cons_zero, List.set_cons_succ]
      refine wpAnyH_ready (rs := [7]) (by kernel_rfl) (by simp) (AllReadyH.cons (o := { dst := some 25, op := Op.call { callee := Callee.builtin Builtin.append, args := #[Operand.tmp 22, Operand.tmp 24], argTypes := #[52, 52] }, type := 52, pos := "keys.go:71", after := #[{ on := 4, ground := Ground.data }, { on := 6, ground := Ground.data }], guard := none }) rfl (fun K hK => ?_) AllReadyH.nil)
      have hOld := hide hHeld
      clear hHeld
      refine wp_append_own2 _ (.tmp 22) (.tmp 24) 52 rfl B 37 i0 (.agg #[.int .u64 0, .string ⟨#[]⟩, .int .i64 0]) 3 32 Try.underlying52 HI.out HZ0.out HZ1.out HZ2.out rfl (by decide) (.slice a L.length c) L.length (L.flatMap entC) rfl KAv6.out.owns ⟨bx, 0, none⟩ 1 1 (by decide) [.int .u64 xk, .string xb, .int .i64 xn] rfl rfl (cells_new XBv6.out) (entC_one ⟨xk, xb, xn⟩) (by unfold maxLen; omega) (by omega) (Nat.le_trans HBS.out OLv6.out.size) ?_
      intro g c2 v7 ho hgr hgg
      have EBv7 := hide (grown_block EBv6.out hgr EBN.out)
      have HDv7 := hide (grown_block KAv6.out.head hgr KAv6.out.apart)
      have OLv7 := hide (OLv6.out.trans ((onlyL_of_grown hgr).mono (fun q hq => List.mem_cons_of_mem _ hq)))
      have OWv7 := hide (show v7.ownsRow B 37 3 (.slice (some ⟨g, 0, none⟩) (L ++ [Ent.mk xk xb xn]).length c2) (L ++ [Ent.mk xk xb xn]).length ((L ++ [Ent.mk xk xb xn]).flatMap entC) by rw [flat_snoc, List.length_append]; exact ho)
      have HGv7 := hide (own_ends hgg OLv6.out.size)
      clear ho hgr hgg
      refine hK.out _ _ (⟨cell_of_block EBv7.out 0, cell_of_block EBv7.out 1, cell_of_block EBv7.out 2⟩) (fun hHeld => ?_)
      clear hK K hOld
      try simp only [Act.put, List.setIfInBounds_toArray, List.set_cons_zero, List.set_cons_succ]
      refine wpAnyH_take (i := 8) (oi := { dst := some 26, op := Op.nilCheck (Operand.tmp 18), type := 0, pos := "keys.go:71", after := #[{ on := 0, ground := Ground.data }, { on := 0, ground := Ground.phase }, { on := 1, ground := Ground.phase }, { on := 2, ground := Ground.phase }, { on := 3, ground := Ground.phase }, { on := 4, ground := Ground.phase }, { on := 5, ground := Ground.phase }, { on := 6, ground := Ground.phase }, { on := 7, ground := Ground.phase }], guard := none }) (v := ?_) rfl (by kernel_rfl) (by kernel_rfl) (by kernel_rfl) (fun _ _ _ h => h) (Or.inl ⟨by kernel_rfl, ?_⟩) hHeld ?_
      rotate_left
      · (intro w hSw; (try dsimp only at hSw); go_simp); try with_reducible rfl
      try simp only [Act.put, List.setIfInBounds_toArray, List.set_cons_zero, List.set_cons_succ]
      refine wpAnyH_take (i := 9) (oi := { dst := some 27, op := Op.fieldAddr 58 (Operand.tmp 26) 1, type := 0, pos := "keys.go:71", after := #[{ on := 8, ground := Ground.data }, { on := 0, ground := Ground.phase }, { on := 1, ground := Ground.phase }, { on := 2, ground := Ground.phase }, { on := 3, ground := Ground.phase }, { on := 4, ground := Ground.phase }, { on := 5, ground := Ground.phase }, { on := 6, ground := Ground.phase }, { on := 7, ground := Ground.phase }], guard := none }) (v := ?_) rfl (by kernel_rfl) (by kernel_rfl) (by kernel_rfl) (fun _ _ _ h => h) (Or.inl ⟨by kernel_rfl, ?_⟩) hHeld ?_
      rotate_left
      · (intro w hSw; (try dsimp only at hSw); go_simp); try with_reducible rfl
      try simp only [Act.put, List.setIfInBounds_toArray, List.set_cons_zero, List.set_cons_succ]
      refine wpAnyH_ready (rs := [10]) (by kernel_rfl) (by simp) (AllReadyH.cons (o := { dst := none, op := Op.store 52 (Operand.tmp 27) (Operand.tmp 25), type := 0, pos := "keys.go:71", after := #[{ on := 9, ground := Ground.data }, { on := 7, ground := Ground.data }, { on := 7, ground := Ground.chain }, { on := 0, ground := Ground.phase }, { on := 1, ground := Ground.phase }, { on := 2, ground := Ground.phase }, { on := 3, ground := Ground.phase }, { on := 4, ground := Ground.phase }, { on := 5, ground := Ground.phase }, { on := 6, ground := Ground.phase }, { on := 7, ground := Ground.phase }], guard := none }) rfl (fun K hK => ?_) AllReadyH.nil)
      have hOld := hide hHeld
      clear hHeld
      have c1 := cell_of_block HDv7.out 1
      have f1 := frozen_of_block HDv7.out 1
      have KAv10 := hide (KeysAt.put HDv7.out OWv7.out HBP.out)
      have OLv10 := hide (OLv7.out.trans (OnlyL.setCell (a := v7) (q := p) (qs := p :: (Value.slice a L.length c).ownBlock.toList) (by simp) 1 (Value.slice (some ⟨g, 0, none⟩) (L.length + 1) c2)))
      have EBv10 := hide ((block_setCell_other (w := v7) (g := p) (b := eb) EBP.out 1 (.slice (some ⟨g, 0, none⟩) (L.length + 1) c2)).trans EBv7.out)
      rw [show (L ++ [Ent.mk xk xb xn]).length = L.length + 1 by simp] at KAv10
      go_simp
      clear c1 f1
      generalize v7.setCell ⟨p, 1, none⟩ (.slice (some ⟨g, 0, none⟩) (L.length + 1) c2) = v10 at *
      refine hK.out _ _ (⟨cell_of_block EBv10.out 0, cell_of_block EBv10.out 1, cell_of_block EBv10.out 2⟩) (fun hHeld => ?_)
      clear hK K hOld
      try simp only [Act.put, List.setIfInBounds_toArray, List.set_cons_zero, List.set_cons_succ]
      refine wpAnyH_done (by kernel_rfl) ?_ _
      go_wp2_with fail
      go_meet
      exact ⟨g, c2, KAv10.out, OLv10.out, HGv7.out⟩
  case rest =>
    obtain ⟨g, c2, k1, k2, k3⟩ := hcut
    have KAu0 := hide (show KeysAt wc.drew p B lim (L ++ [Ent.mk xk xb xn]) (.slice (some ⟨g, 0, none⟩) (L.length + 1) c2) from k1.drew)
    have OLu0 := hide (show OnlyL (p :: (Value.slice a L.length c).ownBlock.toList) w wc.drew from k2.drew)
    have HPG := hide (show p ≠ g from fun e => by have := k1.apart; rw [e] at this; exact this rfl)
    have HGG := hide (show g ∈ (p :: (Value.slice a L.length c).ownBlock.toList) ∨ w.heap.size ≤ g from k3.imp (fun h => by rw [h]; simp) id)
    have HGF := hide k3
    clear k1 k2 k3 HR HF HI HZ0 HZ1 HZ2 EBN EBP HOB HPL HK
    generalize L ++ [Ent.mk xk xb xn] = M at *
    have hM := HLM.out
    have hdd := HD.out
    have HARG := hide (show (if IntKind.i64.wrap ((M.length : Int) - (lim : Int)) < 0 then (0 : Int) else IntKind.i64.wrap ((M.length : Int) - (lim : Int))) = (d : Int) by
      rw [show IntKind.i64.wrap ((M.length : Int) - (lim : Int)) = (M.length : Int) - (lim : Int) by rw [IntKind.wrap_i64]; omega]
      split <;> omega)
    rw [← hM] at KAu0
    clear hM hdd HD
    generalize M.drop d = R at *
    go_upto_region 8 with (fail)
    refine wp_region_held_drew (S := (fun W => W.cell? ⟨p, 0, none⟩ = some (.int .i64 (lim : Int)))) (by kernel_rfl) (KAu0.out.cell0) (fun hHeld => ?_)
    generalize wc.drew = u0 at *
    refine wpAnyH_take (i := 0) (oi := { dst := some 28, op := Op.move (Operand.tmp 0), type := 23, pos := "keys.go:72", after := #[], guard := none }) (v := ?_) rfl (by kernel_rfl) (by kernel_rfl) (by kernel_rfl) (fun _ _ _ h => h) (Or.inl ⟨by kernel_rfl, ?_⟩) hHeld ?_
    rotate_left
    · (intro w hSw; (try dsimp only at hSw); go_simp); try with_reducible rfl
    try simp only [Act.put, List.setIfInBounds_toArray, List.set_cons_zero, List.set_cons_succ]
    refine wpAnyH_take (i := 1) (oi := { dst := some 29, op := Op.move (Operand.tmp 0), type := 23, pos := "keys.go:72", after := #[], guard := none }) (v := ?_) rfl (by kernel_rfl) (by kernel_rfl) (by kernel_rfl) (fun _ _ _ h => h) (Or.inl ⟨by kernel_rfl, ?_⟩) hHeld ?_
    rotate_left
    · (intro w hSw; (try dsimp only at hSw); go_simp); try with_reducible rfl
    try simp only [Act.put, List.setIfInBounds_toArray, List.set_cons_zero, List.set_cons_succ]
    refine wpAnyH_take (i := 2) (oi := { dst := some 30, op := Op.nilCheck (Operand.tmp 29), type := 0, pos := "keys.go:72", after := #[{ on := 1, ground := Ground.data }], guard := none }) (v := ?_) rfl (by kernel_rfl) (by kernel_rfl) (by kernel_rfl) (fun _ _ _ h => h) (Or.inl ⟨by kernel_rfl, ?_⟩) hHeld ?_
    rotate_left
    · (intro w hSw; (try dsimp only at hSw); go_simp); try with_reducible rfl
    try simp only [Act.put, List.setIfInBounds_toArray, List.set_cons_zero, List.set_cons_succ]
    refine wpAnyH_take (i := 3) (oi := { dst := some 31, op := Op.fieldAddr 58 (Operand.tmp 30) 1, type := 0, pos := "keys.go:72", after := #[{ on := 2, ground := Ground.data }], guard := none }) (v := ?_) rfl (by kernel_rfl) (by kernel_rfl) (by kernel_rfl) (fun _ _ _ h => h) (Or.inl ⟨by kernel_rfl, ?_⟩) hHeld ?_
    rotate_left
    · (intro w hSw; (try dsimp only at hSw); go_simp); try with_reducible rfl
    try simp only [Act.put, List.setIfInBounds_toArray, List.set_cons_zero, List.set_cons_succ]
    refine wpAnyH_take (i := 5) (oi := { dst := some 33, op := Op.move (Operand.tmp 0), type := 23, pos := "keys.go:72", after := #[], guard := none }) (v := ?_) rfl (by kernel_rfl) (by kernel_rfl) (by kernel_rfl) (fun _ _ _ h => h) (Or.inl ⟨by kernel_rfl, ?_⟩) hHeld ?_
    rotate_left
    · (intro w hSw; (try dsimp only at hSw); go_simp); try with_reducible rfl
    try simp only [Act.put, List.setIfInBounds_toArray, List.set_cons_zero, List.set_cons_succ]
    refine wpAnyH_take (i := 6) (oi := { dst := some 34, op := Op.nilCheck (Operand.tmp 33), type := 0, pos := "keys.go:72", after := #[{ on := 5, ground := Ground.data }], guard := none }) (v := ?_) rfl (by kernel_rfl) (by kernel_rfl) (by kernel_rfl) (fun _ _ _ h => h) (Or.inl ⟨by kernel_rfl, ?_⟩) hHeld ?_
    rotate_left
    · (intro w hSw; (try dsimp only at hSw); go_simp); try with_reducible rfl
    try simp only [Act.put, List.setIfInBounds_toArray, List.set_cons_zero, List.set_cons_succ]
    refine wpAnyH_take (i := 7) (oi := { dst := some 35, op := Op.fieldAddr 58 (Operand.tmp 34) 1, type := 0, pos := "keys.go:72", after := #[{ on := 6, ground := Ground.data }], guard := none }) (v := ?_) rfl (by kernel_rfl) (by kernel_rfl) (by kernel_rfl) (fun _ _ _ h => h) (Or.inl ⟨by kernel_rfl, ?_⟩) hHeld ?_
    rotate_left
    · (intro w hSw; (try dsimp only at hSw); go_simp); try with_reducible rfl
    try simp only [Act.put, List.setIfInBounds_toArray, List.set_cons_zero, List.set_cons_succ]
    refine wpAnyH_take (i := 10) (oi := { dst := some 38, op := Op.move (Operand.tmp 0), type := 23, pos := "keys.go:72", after := #[], guard := none }) (v := ?_) rfl (by kernel_rfl) (by kernel_rfl) (by kernel_rfl) (fun _ _ _ h => h) (Or.inl ⟨by kernel_rfl, ?_⟩) hHeld ?_
    rotate_left
    · (intro w hSw; (try dsimp only at hSw); go_simp); try with_reducible rfl
    try simp only [Act.put, List.setIfInBounds_toArray, List.set_cons_zero, List.set_cons_succ]
    refine wpAnyH_take (i := 11) (oi := { dst := some 39, op := Op.nilCheck (Operand.tmp 38), type := 0, pos := "keys.go:72", after := #[{ on := 10, ground := Ground.data }], guard := none }) (v := ?_) rfl (by kernel_rfl) (by kernel_rfl) (by kernel_rfl) (fun _ _ _ h => h) (Or.inl ⟨by kernel_rfl, ?_⟩) hHeld ?_
    rotate_left
    · (intro w hSw; (try dsimp only at hSw); go_simp); try with_reducible rfl
    try simp only [Act.put, List.setIfInBounds_toArray, List.set_cons_zero, List.set_cons_succ]
    refine wpAnyH_take (i := 12) (oi := { dst := some 40, op := Op.fieldAddr 58 (Operand.tmp 39) 0, type := 0, pos := "keys.go:72", after := #[{ on := 11, ground := Ground.data }], guard := none }) (v := ?_) rfl (by kernel_rfl) (by kernel_rfl) (by kernel_rfl) (fun _ _ _ h => h) (Or.inl ⟨by kernel_rfl, ?_⟩) hHeld ?_
    rotate_left
    · (intro w hSw; (try dsimp only at hSw); go_simp); try with_reducible rfl
    try simp only [Act.put, List.setIfInBounds_toArray, List.set_cons_zero, List.set_cons_succ]
    refine wpAnyH_take (i := 13) (oi := { dst := some 41, op := Op.load 3 (Operand.tmp 40), type := 3, pos := "keys.go:72", after := #[{ on := 12, ground := Ground.data }], guard := none }) (v := ?_) rfl (by kernel_rfl) (by kernel_rfl) (by kernel_rfl) (fun _ _ _ h => h) (Or.inl ⟨by kernel_rfl, ?_⟩) hHeld ?_
    rotate_left
    · (intro w hSw; (try dsimp only at hSw); go_simp); try with_reducible rfl
    try simp only [Act.put, List.setIfInBounds_toArray, List.set_cons_zero, List.set_cons_succ]
    refine wpAnyH_ready (rs := [4, 8]) (by kernel_rfl) (by simp) (AllReadyH.cons (o := { dst := some 32, op := Op.load 52 (Operand.tmp 31), type := 52, pos := "keys.go:72", after := #[{ on := 3, ground := Ground.data }], guard := none }) rfl (fun K hK => ?_) (AllReadyH.cons (o := { dst := some 36, op := Op.load 52 (Operand.tmp 35), type := 52, pos := "keys.go:72", after := #[{ on := 7, ground := Ground.data }], guard := none }) rfl (fun K hK => ?_) AllReadyH.nil))
    · have hOld := hide hHeld
      clear hHeld
      have c1 := KAu0.out.cell1
      go_simp
      clear c1
      refine hK.out _ _ (KAu0.out.cell0) (fun hHeld => ?_)
      clear hK K hOld
      try simp only [Act.put, List.setIfInBounds_toArray, List.set_cons_zero, List.set_cons_succ]
      refine wpAnyH_ready (rs := [8]) (by kernel_rfl) (by simp) (AllReadyH.cons (o := { dst := some 36, op := Op.load 52 (Operand.tmp 35), type := 52, pos := "keys.go:72", after := #[{ on := 7, ground := Ground.data }], guard := none }) rfl (fun K hK => ?_) AllReadyH.nil)
      have hOld := hide hHeld
      clear hHeld
      have c1 := KAu0.out.cell1
      go_simp
      clear c1
      refine hK.out _ _ (KAu0.out.cell0) (fun hHeld => ?_)
      clear hK K hOld
      try simp only [Act.put, List.setIfInBounds_toArray, List.set_cons_zero, List.set_cons_succ]
      refine wpAnyH_take (i := 9) (oi := { dst := some 37, op := Op.call { callee := Callee.builtin Builtin.len, args := #[Operand.tmp 36], argTypes := #[52] }, type := 3, pos := "keys.go:72", after := #[{ on := 8, ground := Ground.data }], guard := none }) (v := ?_) rfl (by kernel_rfl) (by kernel_rfl) (by kernel_rfl) (fun _ _ _ h => h) (Or.inl ⟨by kernel_rfl, ?_⟩) hHeld ?_
      rotate_left
      · (intro w hSw; (try dsimp only at hSw); go_simp); try with_reducible rfl
      try simp only [Act.put, List.setIfInBounds_toArray, List.set_cons_zero, List.set_cons_succ]
      refine wpAnyH_take (i := 14) (oi := { dst := some 42, op := Op.binOp BinOp.sub 3 (Operand.tmp 37) (Operand.tmp 41) 3, type := 3, pos := "keys.go:72", after := #[{ on := 9, ground := Ground.data }, { on := 13, ground := Ground.data }], guard := none }) (v := ?_) rfl (by kernel_rfl) (by kernel_rfl) (by kernel_rfl) (fun _ _ _ h => h) (Or.inl ⟨by kernel_rfl, ?_⟩) hHeld ?_
      rotate_left
      · (intro w hSw; (try dsimp only at hSw); go_simp); try with_reducible rfl
      try simp only [Act.put, List.setIfInBounds_toArray, List.set_cons_zero, List.set_cons_succ]
      refine wpAnyH_take (i := 15) (oi := { dst := some 43, op := Op.call { callee := Callee.builtin Builtin.max, args := #[Operand.tmp 42, Operand.const (Value.int IntKind.i64 0)], argTypes := #[3, 3] }, type := 3, pos := "keys.go:72", after := #[{ on := 14, ground := Ground.data }], guard := none }) (v := ?_) rfl (by kernel_rfl) (by kernel_rfl) (by kernel_rfl) (fun _ _ _ h => h) (Or.inl ⟨by kernel_rfl, ?_⟩) hHeld ?_
      rotate_left
      · (intro w hSw; (try dsimp only at hSw); go_simp); try with_reducible rfl
      try simp only [Act.put, List.setIfInBounds_toArray, List.set_cons_zero, List.set_cons_succ]
      refine wpAnyH_ready (rs := [16]) (by kernel_rfl) (by simp) (AllReadyH.cons (o := { dst := some 44, op := Op.call { callee := Callee.value (Operand.func 21), args := #[Operand.tmp 32, Operand.const (Value.int IntKind.i64 0), Operand.tmp 43], argTypes := #[52, 3, 3] }, type := 52, pos := "keys.go:72", after := #[{ on := 4, ground := Ground.data }, { on := 15, ground := Ground.data }], guard := none }) rfl (fun K hK => ?_) AllReadyH.nil)
      have hOld := hide hHeld
      clear hHeld
      go_simp
      rw [HARG.out]
      refine (HDEL.out _ _ _ KAu0.out.owns).mono ?_
      rintro e u16 ⟨rfl, ho, hon⟩
      have HDu := hide ((hon.block p (heap_lt KAu0.out.head) HPG.out).trans KAu0.out.head)
      have OLu := hide (OLu0.out.new (OnlyL.of_only hon (List.mem_singleton.2 rfl)) (fun r hr => by rw [List.mem_singleton.1 hr]; exact HGG.out))
      have OWu := hide ho
      clear ho hon
      (try go_wp2_with fail)
      refine hK.out _ _ (cell_of_block HDu.out 0) (fun hHeld => ?_)
      clear hK K hOld
      try simp only [Act.put, List.setIfInBounds_toArray, List.set_cons_zero, List.set_cons_succ]
      refine wpAnyH_take (i := 17) (oi := { dst := some 45, op := Op.nilCheck (Operand.tmp 28), type := 0, pos := "keys.go:72", after := #[{ on := 0, ground := Ground.data }, { on := 0, ground := Ground.phase }, { on := 1, ground := Ground.phase }, { on := 2, ground := Ground.phase }, { on := 3, ground := Ground.phase }, { on := 4, ground := Ground.phase }, { on := 5, ground := Ground.phase }, { on := 6, ground := Ground.phase }, { on := 7, ground := Ground.phase }, { on := 8, ground := Ground.phase }, { on := 9, ground := Ground.phase }, { on := 10, ground := Ground.phase }, { on := 11, ground := Ground.phase }, { on := 12, ground := Ground.phase }, { on := 13, ground := Ground.phase }, { on := 14, ground := Ground.phase }, { on := 15, ground := Ground.phase }, { on := 16, ground := Ground.phase }], guard := none }) (v := ?_) rfl (by kernel_rfl) (by kernel_rfl) (by kernel_rfl) (fun _ _ _ h => h) (Or.inl ⟨by kernel_rfl, ?_⟩) hHeld ?_
      rotate_left
      · (intro w hSw; (try dsimp only at hSw); go_simp); try with_reducible rfl
      try simp only [Act.put, List.setIfInBounds_toArray, List.set_cons_zero, List.set_cons_succ]
      refine wpAnyH_take (i := 18) (oi := { dst := some 46, op := Op.fieldAddr 58 (Operand.tmp 45) 1, type := 0, pos := "keys.go:72", after := #[{ on := 17, ground := Ground.data }, { on := 0, ground := Ground.phase }, { on := 1, ground := Ground.phase }, { on := 2, ground := Ground.phase }, { on := 3, ground := Ground.phase }, { on := 4, ground := Ground.phase }, { on := 5, ground := Ground.phase }, { on := 6, ground := Ground.phase }, { on := 7, ground := Ground.phase }, { on := 8, ground := Ground.phase }, { on := 9, ground := Ground.phase }, { on := 10, ground := Ground.phase }, { on := 11, ground := Ground.phase }, { on := 12, ground := Ground.phase }, { on := 13, ground := Ground.phase }, { on := 14, ground := Ground.phase }, { on := 15, ground := Ground.phase }, { on := 16, ground := Ground.phase }], guard := none }) (v := ?_) rfl (by kernel_rfl) (by kernel_rfl) (by kernel_rfl) (fun _ _ _ h => h) (Or.inl ⟨by kernel_rfl, ?_⟩) hHeld ?_
      rotate_left
      · (intro w hSw; (try dsimp only at hSw); go_simp); try with_reducible rfl
      try simp only [Act.put, List.setIfInBounds_toArray, List.set_cons_zero, List.set_cons_succ]
      refine wpAnyH_ready (rs := [19]) (by kernel_rfl) (by simp) (AllReadyH.cons (o := { dst := none, op := Op.store 52 (Operand.tmp 46) (Operand.tmp 44), type := 0, pos := "keys.go:72", after := #[{ on := 18, ground := Ground.data }, { on := 16, ground := Ground.data }, { on := 16, ground := Ground.chain }, { on := 0, ground := Ground.phase }, { on := 1, ground := Ground.phase }, { on := 2, ground := Ground.phase }, { on := 3, ground := Ground.phase }, { on := 4, ground := Ground.phase }, { on := 5, ground := Ground.phase }, { on := 6, ground := Ground.phase }, { on := 7, ground := Ground.phase }, { on := 8, ground := Ground.phase }, { on := 9, ground := Ground.phase }, { on := 10, ground := Ground.phase }, { on := 11, ground := Ground.phase }, { on := 12, ground := Ground.phase }, { on := 13, ground := Ground.phase }, { on := 14, ground := Ground.phase }, { on := 15, ground := Ground.phase }, { on := 16, ground := Ground.phase }], guard := none }) rfl (fun K hK => ?_) AllReadyH.nil)
      have hOld := hide hHeld
      clear hHeld
      have c1 := cell_of_block HDu.out 1
      have f1 := frozen_of_block HDu.out 1
      have KAz := hide (KeysAt.put HDu.out OWu.out HBP.out)
      have OLz := hide (OLu.out.trans (OnlyL.setCell (a := u16) (q := p) (qs := p :: (Value.slice a L.length c).ownBlock.toList) (by simp) 1 (.slice (some ⟨g, 0, none⟩) R.length c2)))
      go_simp
      clear c1 f1
      refine hK.out _ _ (KAz.out.cell0) (fun hHeld => ?_)
      clear hK K hOld
      try simp only [Act.put, List.setIfInBounds_toArray, List.set_cons_zero, List.set_cons_succ]
      refine wpAnyH_done (by kernel_rfl) ?_ _
      clear hHeld
      go_wp2_with fail
      go_ret
      exact ⟨_, rfl, by rw [HPUT.out]; exact KAz.out, OLz.out, fun j hj => by cases hj; exact HGF.out⟩
    · have hOld := hide hHeld
      clear hHeld
      have c1 := KAu0.out.cell1
      go_simp
      clear c1
      refine hK.out _ _ (KAu0.out.cell0) (fun hHeld => ?_)
      clear hK K hOld
      try simp only [Act.put, List.setIfInBounds_toArray, List.set_cons_zero, List.set_cons_succ]
      refine wpAnyH_take (i := 9) (oi := { dst := some 37, op := Op.call { callee := Callee.builtin Builtin.len, args := #[Operand.tmp 36], argTypes := #[52] }, type := 3, pos := "keys.go:72", after := #[{ on := 8, ground := Ground.data }], guard := none }) (v := ?_) rfl (by kernel_rfl) (by kernel_rfl) (by kernel_rfl) (fun _ _ _ h => h) (Or.inl ⟨by kernel_rfl, ?_⟩) hHeld ?_
      rotate_left
      · (intro w hSw; (try dsimp only at hSw); go_simp); try with_reducible rfl
      try simp only [Act.put, List.setIfInBounds_toArray, List.set_cons_zero, List.set_cons_succ]
      refine wpAnyH_take (i := 14) (oi := { dst := some 42, op := Op.binOp BinOp.sub 3 (Operand.tmp 37) (Operand.tmp 41) 3, type := 3, pos := "keys.go:72", after := #[{ on := 9, ground := Ground.data }, { on := 13, ground := Ground.data }], guard := none }) (v := ?_) rfl (by kernel_rfl) (by kernel_rfl) (by kernel_rfl) (fun _ _ _ h => h) (Or.inl ⟨by kernel_rfl, ?_⟩) hHeld ?_
      rotate_left
      · (intro w hSw; (try dsimp only at hSw); go_simp); try with_reducible rfl
      try simp only [Act.put, List.setIfInBounds_toArray, List.set_cons_zero, List.set_cons_succ]
      refine wpAnyH_take (i := 15) (oi := { dst := some 43, op := Op.call { callee := Callee.builtin Builtin.max, args := #[Operand.tmp 42, Operand.const (Value.int IntKind.i64 0)], argTypes := #[3, 3] }, type := 3, pos := "keys.go:72", after := #[{ on := 14, ground := Ground.data }], guard := none }) (v := ?_) rfl (by kernel_rfl) (by kernel_rfl) (by kernel_rfl) (fun _ _ _ h => h) (Or.inl ⟨by kernel_rfl, ?_⟩) hHeld ?_
      rotate_left
      · (intro w hSw; (try dsimp only at hSw); go_simp); try with_reducible rfl
      try simp only [Act.put, List.setIfInBounds_toArray, List.set_cons_zero, List.set_cons_succ]
      refine wpAnyH_ready (rs := [4]) (by kernel_rfl) (by simp) (AllReadyH.cons (o := { dst := some 32, op := Op.load 52 (Operand.tmp 31), type := 52, pos := "keys.go:72", after := #[{ on := 3, ground := Ground.data }], guard := none }) rfl (fun K hK => ?_) AllReadyH.nil)
      have hOld := hide hHeld
      clear hHeld
      have c1 := KAu0.out.cell1
      go_simp
      clear c1
      refine hK.out _ _ (KAu0.out.cell0) (fun hHeld => ?_)
      clear hK K hOld
      try simp only [Act.put, List.setIfInBounds_toArray, List.set_cons_zero, List.set_cons_succ]
      refine wpAnyH_ready (rs := [16]) (by kernel_rfl) (by simp) (AllReadyH.cons (o := { dst := some 44, op := Op.call { callee := Callee.value (Operand.func 21), args := #[Operand.tmp 32, Operand.const (Value.int IntKind.i64 0), Operand.tmp 43], argTypes := #[52, 3, 3] }, type := 52, pos := "keys.go:72", after := #[{ on := 4, ground := Ground.data }, { on := 15, ground := Ground.data }], guard := none }) rfl (fun K hK => ?_) AllReadyH.nil)
      have hOld := hide hHeld
      clear hHeld
      go_simp
      rw [HARG.out]
      refine (HDEL.out _ _ _ KAu0.out.owns).mono ?_
      rintro e u16 ⟨rfl, ho, hon⟩
      have HDu := hide ((hon.block p (heap_lt KAu0.out.head) HPG.out).trans KAu0.out.head)
      have OLu := hide (OLu0.out.new (OnlyL.of_only hon (List.mem_singleton.2 rfl)) (fun r hr => by rw [List.mem_singleton.1 hr]; exact HGG.out))
      have OWu := hide ho
      clear ho hon
      (try go_wp2_with fail)
      refine hK.out _ _ (cell_of_block HDu.out 0) (fun hHeld => ?_)
      clear hK K hOld
      try simp only [Act.put, List.setIfInBounds_toArray, List.set_cons_zero, List.set_cons_succ]
      refine wpAnyH_take (i := 17) (oi := { dst := some 45, op := Op.nilCheck (Operand.tmp 28), type := 0, pos := "keys.go:72", after := #[{ on := 0, ground := Ground.data }, { on := 0, ground := Ground.phase }, { on := 1, ground := Ground.phase }, { on := 2, ground := Ground.phase }, { on := 3, ground := Ground.phase }, { on := 4, ground := Ground.phase }, { on := 5, ground := Ground.phase }, { on := 6, ground := Ground.phase }, { on := 7, ground := Ground.phase }, { on := 8, ground := Ground.phase }, { on := 9, ground := Ground.phase }, { on := 10, ground := Ground.phase }, { on := 11, ground := Ground.phase }, { on := 12, ground := Ground.phase }, { on := 13, ground := Ground.phase }, { on := 14, ground := Ground.phase }, { on := 15, ground := Ground.phase }, { on := 16, ground := Ground.phase }], guard := none }) (v := ?_) rfl (by kernel_rfl) (by kernel_rfl) (by kernel_rfl) (fun _ _ _ h => h) (Or.inl ⟨by kernel_rfl, ?_⟩) hHeld ?_
      rotate_left
      · (intro w hSw; (try dsimp only at hSw); go_simp); try with_reducible rfl
      try simp only [Act.put, List.setIfInBounds_toArray, List.set_cons_zero, List.set_cons_succ]
      refine wpAnyH_take (i := 18) (oi := { dst := some 46, op := Op.fieldAddr 58 (Operand.tmp 45) 1, type := 0, pos := "keys.go:72", after := #[{ on := 17, ground := Ground.data }, { on := 0, ground := Ground.phase }, { on := 1, ground := Ground.phase }, { on := 2, ground := Ground.phase }, { on := 3, ground := Ground.phase }, { on := 4, ground := Ground.phase }, { on := 5, ground := Ground.phase }, { on := 6, ground := Ground.phase }, { on := 7, ground := Ground.phase }, { on := 8, ground := Ground.phase }, { on := 9, ground := Ground.phase }, { on := 10, ground := Ground.phase }, { on := 11, ground := Ground.phase }, { on := 12, ground := Ground.phase }, { on := 13, ground := Ground.phase }, { on := 14, ground := Ground.phase }, { on := 15, ground := Ground.phase }, { on := 16, ground := Ground.phase }], guard := none }) (v := ?_) rfl (by kernel_rfl) (by kernel_rfl) (by kernel_rfl) (fun _ _ _ h => h) (Or.inl ⟨by kernel_rfl, ?_⟩) hHeld ?_
      rotate_left
      · (intro w hSw; (try dsimp only at hSw); go_simp); try with_reducible rfl
      try simp only [Act.put, List.setIfInBounds_toArray, List.set_cons_zero, List.set_cons_succ]
      refine wpAnyH_ready (rs := [19]) (by kernel_rfl) (by simp) (AllReadyH.cons (o := { dst := none, op := Op.store 52 (Operand.tmp 46) (Operand.tmp 44), type := 0, pos := "keys.go:72", after := #[{ on := 18, ground := Ground.data }, { on := 16, ground := Ground.data }, { on := 16, ground := Ground.chain }, { on := 0, ground := Ground.phase }, { on := 1, ground := Ground.phase }, { on := 2, ground := Ground.phase }, { on := 3, ground := Ground.phase }, { on := 4, ground := Ground.phase }, { on := 5, ground := Ground.phase }, { on := 6, ground := Ground.phase }, { on := 7, ground := Ground.phase }, { on := 8, ground := Ground.phase }, { on := 9, ground := Ground.phase }, { on := 10, ground := Ground.phase }, { on := 11, ground := Ground.phase }, { on := 12, ground := Ground.phase }, { on := 13, ground := Ground.phase }, { on := 14, ground := Ground.phase }, { on := 15, ground := Ground.phase }, { on := 16, ground := Ground.phase }], guard := none }) rfl (fun K hK => ?_) AllReadyH.nil)
      have hOld := hide hHeld
      clear hHeld
      have c1 := cell_of_block HDu.out 1
      have f1 := frozen_of_block HDu.out 1
      have KAz := hide (KeysAt.put HDu.out OWu.out HBP.out)
      have OLz := hide (OLu.out.trans (OnlyL.setCell (a := u16) (q := p) (qs := p :: (Value.slice a L.length c).ownBlock.toList) (by simp) 1 (.slice (some ⟨g, 0, none⟩) R.length c2)))
      go_simp
      clear c1 f1
      refine hK.out _ _ (KAz.out.cell0) (fun hHeld => ?_)
      clear hK K hOld
      try simp only [Act.put, List.setIfInBounds_toArray, List.set_cons_zero, List.set_cons_succ]
      refine wpAnyH_done (by kernel_rfl) ?_ _
      clear hHeld
      go_wp2_with fail
      go_ret
      exact ⟨_, rfl, by rw [HPUT.out]; exact KAz.out, OLz.out, fun j hj => by cases hj; exact HGF.out⟩
end Go.Proofs.Ytmomjefbifoliaa
