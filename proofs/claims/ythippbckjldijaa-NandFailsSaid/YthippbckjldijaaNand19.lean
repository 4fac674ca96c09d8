/-
  Layer 5's laws: the closure of NandFails by contract.
-/
import Derived.Test.YthippbckjldijaaMFail
namespace Go.Proofs.Ythippbckjldijaa
set_option linter.unusedSimpArgs false
set_option linter.unusedVariables false
open Go.RowKit Go.WideShapes Go.ChangeShapes Go.ChangeAt Go.Deep

set_option maxRecDepth 100000 in
theorem fail_erase (p q B : Nat) (G : Nat → Nat) (S : ChipM) (hS : NandOk S) (hF : 0 ≤ (S.blk 1).erased ∧ (S.blk 1).erased ≤ 1000000) (hE : eraseT S 1 = (erasedS S 1, 10)) (ha : askE S 1 0 = 0) (hs : sinE (S.blk 1) false = 0) (hf : ¬ S.fuse = 1) (hw : (S.blk 1).weak = true) (eb cb : Nat) (w : World) (hx : w.heap[eb]? = some (.cells #[.bool true] 4 (0, 0))) (hc : w.heap[cb]? = some (.cells #[.pointer (some ⟨p, 0, none⟩)] 28 (0, 0))) (h : NandAt w p q B G S) :
    Calls Try.prog 32 #[.pointer (some ⟨eb, 0, none⟩), .pointer (some ⟨cb, 0, none⟩)] w (NandIs p q B G (eraseT S 1).1 (.int .i64 (eraseT S 1).2) w) := by
  have HE := hide (erase_go p q B G S hS 1 w h ha hs hf hF)
  rw [show erasedE S 1 = 10 by unfold erasedE; rw [if_pos hw]] at HE
  rw [hE]
  have c0 := cell_of_block hc 0
  have x0 := cell_of_block hx 0
  clear hx hc h hS hF hE ha hs hf hw
  go_enter Try.func32, Try.ntmps32
  go_wp2_with fail
  refine HE.out.mono ?_
  rintro e w1 ⟨rfl, hn, ht⟩
  have N1 := hide hn
  have T1 := hide ht
  clear hn ht
  go_wp2_with fail
  go_ret
  exact ⟨rfl, N1.out, T1.out⟩
set_option maxRecDepth 100000 in
theorem fail_prog (p q B : Nat) (G : Nat → Nat) (S : ChipM) (hS : NandOk S) (eb cb : Nat) (w : World) (hx : w.heap[eb]? = some (.cells #[.bool false] 4 (0, 0))) (hc : w.heap[cb]? = some (.cells #[.pointer (some ⟨p, 0, none⟩)] 28 (0, 0))) (h : NandAt w p q B G S) :
    Calls Try.prog 32 #[.pointer (some ⟨eb, 0, none⟩), .pointer (some ⟨cb, 0, none⟩)] w (NandIs p q B G (progT S 1 (nextZ S 1) feB feB).1 (.int .i64 (progT S 1 (nextZ S 1) feB feB).2) w) := by
  have HNX := hide (fun W hW => next_any p q B G S 1 W hW)
  have HPG := hide (fun W hW => program_any p q B G S hS 1 (nextZ S 1) feB feB W hW)
  have HF := hide (fun W => full_any ⟨#[]⟩ (by decide) 32 (by decide) W)
  rw [show fullB ⟨#[]⟩ 32 = feB from rfl] at HF
  generalize feB = tE at *
  generalize progT S 1 (nextZ S 1) tE tE = R at *
  generalize nextZ S 1 = nx at *
  have x0 := cell_of_block hx 0
  have XC0 := hide (show w.drew.heap[cb]? = _ from hc)
  have N0 := hide h.drew
  have T0 := hide (Turn.refl B w).drew
  clear hx hc h hS
  go_enter Try.func32, Try.ntmps32
  go_upto_region 3 with (fail)
  refine wp_region_held_drew (S := (fun W => W.cell? ⟨cb, 0, none⟩ = some (.pointer (some ⟨p, 0, none⟩)))) (by kernel_rfl) (cell_of_block XC0.out 0) (fun hHeld => ?_)
  generalize w.drew = v0 at *
  refine wpAnyH_take (i := 0) (oi := { dst := some 6, op := Op.load 28 (Operand.tmp 1), type := 28, pos := "law.go:183", after := #[], guard := none }) (v := ?_) rfl (by kernel_rfl) (by kernel_rfl) (by kernel_rfl) (fun _ _ _ h => h) (Or.inl ⟨by kernel_rfl, ?_⟩) hHeld ?_
  rotate_left
  · (intro w hSw; (try dsimp only at hSw); go_simp); try with_reducible rfl
  try simp only [Act.put, List.setIfInBounds_toArray, List.set_cons_zero, List.set_cons_succ]
  refine wpAnyH_take (i := 1) (oi := { dst := some 7, op := Op.load 28 (Operand.tmp 1), type := 28, pos := "law.go:183", after := #[], guard := none }) (v := ?_) rfl (by kernel_rfl) (by kernel_rfl) (by kernel_rfl) (fun _ _ _ h => h) (Or.inl ⟨by kernel_rfl, ?_⟩) hHeld ?_
  rotate_left
  · (intro w hSw; (try dsimp only at hSw); go_simp); try with_reducible rfl
  try simp only [Act.put, List.setIfInBounds_toArray, List.set_cons_zero, List.set_cons_succ]
  refine wpAnyH_ready (rs := [2]) (by kernel_rfl) (by simp) (AllReadyH.cons (o := { dst := some 8, op := Op.call { callee := Callee.value (Operand.func 27), args := #[Operand.tmp 7, Operand.const (Value.int IntKind.i64 1)], argTypes := #[28, 3] }, type := 3, pos := "law.go:183", after := #[{ on := 1, ground := Ground.data }], guard := none }) rfl (fun K hK => ?_) AllReadyH.nil)
  have hOld := hide hHeld
  clear hHeld
  go_simp
  refine (HNX.out _ N0.out).mono ?_
  rintro e u1 ⟨rfl, rfl⟩
  (try go_wp2_with fail)
  refine hK.out _ _ (cell_of_block XC0.out 0) (fun hHeld => ?_)
  clear hK K hOld
  try simp only [Act.put, List.setIfInBounds_toArray, List.set_cons_zero, List.set_cons_succ]
  refine wpAnyH_ready (rs := [3]) (by kernel_rfl) (by simp) (AllReadyH.cons (o := { dst := some 9, op := Op.call { callee := Callee.value (Operand.func 13), args := #[Operand.const (Value.string { data := #[] }), Operand.const (Value.int IntKind.i64 32)], argTypes := #[9, 3] }, type := 9, pos := "law.go:183", after := #[{ on := 2, ground := Ground.chain }], guard := none }) rfl (fun K hK => ?_) AllReadyH.nil)
  have hOld := hide hHeld
  clear hHeld
  go_simp
  refine (HF.out _).mono ?_
  rintro e u1 ⟨rfl, hb⟩
  have XC1 := hide ((hb.block _ (heap_lt XC0.out)).trans XC0.out)
  have N1 := hide (N0.out.below hb)
  have T1 := hide (T0.out.trans (Turn.of_below hb N0.out.size))
  clear hb
  (try go_wp2_with fail)
  refine hK.out _ _ (cell_of_block XC1.out 0) (fun hHeld => ?_)
  clear hK K hOld
  try simp only [Act.put, List.setIfInBounds_toArray, List.set_cons_zero, List.set_cons_succ]
  refine wpAnyH_ready (rs := [4]) (by kernel_rfl) (by simp) (AllReadyH.cons (o := { dst := some 10, op := Op.call { callee := Callee.value (Operand.func 13), args := #[Operand.const (Value.string { data := #[] }), Operand.const (Value.int IntKind.i64 32)], argTypes := #[9, 3] }, type := 9, pos := "law.go:183", after := #[{ on := 3, ground := Ground.chain }], guard := none }) rfl (fun K hK => ?_) AllReadyH.nil)
  have hOld := hide hHeld
  clear hHeld
  go_simp
  refine (HF.out _).mono ?_
  rintro e u2 ⟨rfl, hb⟩
  have XC2 := hide ((hb.block _ (heap_lt XC1.out)).trans XC1.out)
  have N2 := hide (N1.out.below hb)
  have T2 := hide (T1.out.trans (Turn.of_below hb N1.out.size))
  clear hb
  (try go_wp2_with fail)
  refine hK.out _ _ (cell_of_block XC2.out 0) (fun hHeld => ?_)
  clear hK K hOld
  try simp only [Act.put, List.setIfInBounds_toArray, List.set_cons_zero, List.set_cons_succ]
  refine wpAnyH_ready (rs := [5]) (by kernel_rfl) (by simp) (AllReadyH.cons (o := { dst := some 11, op := Op.call { callee := Callee.value (Operand.func 14), args := #[Operand.tmp 6, Operand.const (Value.int IntKind.i64 1), Operand.tmp 8, Operand.tmp 9, Operand.tmp 10], argTypes := #[28, 3, 3, 9, 9] }, type := 29, pos := "law.go:183", after := #[{ on := 0, ground := Ground.data }, { on := 2, ground := Ground.data }, { on := 3, ground := Ground.data }, { on := 4, ground := Ground.data }, { on := 4, ground := Ground.chain }], guard := none }) rfl (fun K hK => ?_) AllReadyH.nil)
  have hOld := hide hHeld
  clear hHeld
  go_simp
  refine (HPG.out _ N2.out).mono ?_
  rintro e u3 ⟨rfl, hn, ht⟩
  have XC3 := hide (ht.2.cells XC2.out (by decide))
  have N3 := hide hn
  have T3 := hide (T2.out.trans ht)
  clear hn ht
  (try go_wp2_with fail)
  refine hK.out _ _ (cell_of_block XC3.out 0) (fun hHeld => ?_)
  clear hK K hOld
  try simp only [Act.put, List.setIfInBounds_toArray, List.set_cons_zero, List.set_cons_succ]
  refine wpAnyH_take (i := 6) (oi := { dst := some 2, op := Op.assign (Operand.tmp 11), type := 29, pos := "law.go:183", after := #[{ on := 5, ground := Ground.data }, { on := 5, ground := Ground.chain }, { on := 0, ground := Ground.phase }, { on := 1, ground := Ground.phase }, { on := 2, ground := Ground.phase }, { on := 3, ground := Ground.phase }, { on := 4, ground := Ground.phase }, { on := 5, ground := Ground.phase }], guard := none }) (v := ?_) rfl (by kernel_rfl) (by kernel_rfl) (by kernel_rfl) (fun _ _ _ h => h) (Or.inl ⟨by kernel_rfl, ?_⟩) hHeld ?_
  rotate_left
  · (intro w hSw; (try dsimp only at hSw); go_simp); try with_reducible rfl
  try simp only [Act.put, List.setIfInBounds_toArray, List.set_cons_zero, List.set_cons_succ]
  refine wpAnyH_done (by kernel_rfl) ?_ _
  clear hHeld
  go_wp2_with fail
  go_ret
  exact ⟨rfl, N3.out, T3.out⟩
end Go.Proofs.Ythippbckjldijaa
