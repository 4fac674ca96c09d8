/-
  Layer 5's laws, walked and closed: NandPlays.
-/
import Derived.Test.YthippbckjldijaaRNand11
import Derived.Deep.DeepCutAuto
import Derived.Deep.CutBlock
--import Derived.Test.Zdbg
namespace Go.Proofs.Ythippbckjldijaa
set_option linter.unusedSimpArgs false
set_option linter.unusedVariables false
open Go.RowKit Go.WideShapes Go.ChangeShapes Go.ChangeAt Go.Deep

theorem Duo.drewN {w W : World} {P Q B c pq n e a f m cp B' : Nat} {G G' : Nat → Nat} {S S' : ChipM} (h : Duo w W P Q B G c pq n e a f m cp G' B' S S') (q : Nat) : Duo w (W.drewN q) P Q B G c pq n e a f m cp G' B' S S' := ⟨h.nand.drewN q, h.ref.drewN q, below_drewN h.low q, h.b1, h.b2⟩
theorem badOne_size (S : ChipM) (i : Int) : (badOne S i).size = S.size := by unfold badOne; split <;> rfl
theorem badS_size (L : List Int) : ∀ S : ChipM, (badS S L).size = S.size := by
  induction L with
  | nil => exact fun _ => rfl
  | cons i L ih => exact fun S => (ih (badOne S i)).trans (badOne_size S i)
set_option maxRecDepth 100000 in
set_option maxHeartbeats 2000000 in
theorem nandPlays_walk (x y z : Int) (vb : Value) (bl : List Int) (a : Option Addr) (L : List ActM) (cap : Nat) (w : World) (hbl : NumsAt w .i64 vb bl) (hbm : bl.length ≤ 9223372036854775807) (hcap : L.length ≤ cap) (h63 : L.length ≤ 9223372036854775807) (hin : ActsIn w a L) (hok : ∀ x ∈ L, ActOk x) :
    Calls Try.prog 3 #[.agg #[.int .i64 x, .int .i64 y, .int .i64 z], vb, .slice a L.length cap] w fun e w' => e = .returned (.bool true) ∧ Below w.heap.size w w' := by
  have HIN := hide hin
  have HOK := hide hok
  clear hin hok
  obtain ⟨za, zc, rfl, hzc⟩ := nums_form hbl
  obtain ⟨k5, hk5⟩ : ∃ m : Nat, min bl.length 5 = m := ⟨_, rfl⟩
  have hk1 : k5 ≤ bl.length := by omega
  have hkF : (if (5 : Int) < (bl.length : Int) then (5 : Int) else (bl.length : Int)) = (k5 : Int) := by split <;> omega
  have hkI : min (bl.length : Int) 5 = (k5 : Int) := by omega
  have hkc : (k5 : Int) ≤ (zc : Int) := by omega
  have htl : (bl.take k5).length = k5 := by rw [List.length_take]; omega
  have htl5 : (bl.take k5).length ≤ 5 := by omega
  have HT := hide (show NumsAt w .i64 (.slice za k5 zc) (bl.take k5) by
    have h1 := nums_take5 hbl k5 hk1
    rw [htl] at h1
    exact h1)
  have HTL := hide htl5
  generalize bl.take k5 = bz at *
  obtain ⟨m, hm⟩ : ∃ m : Nat, min L.length 60 = m := ⟨_, rfl⟩
  have hm1 : m ≤ L.length := by omega
  have HM := hide (show m ≤ 60 by omega)
  have hmF : (if (60 : Int) < (L.length : Int) then (60 : Int) else (L.length : Int)) = (m : Int) := by split <;> omega
  have hmI : min (L.length : Int) 60 = (m : Int) := by omega
  have hcI : (m : Int) ≤ (cap : Int) := by omega
  clear hm hk5 hbl htl htl5
  go_enter Try.func3, Try.ntmps3
  go_wp2_with fail
  obtain ⟨oa, hoa⟩ : ∃ oa, oa = Obj.cells #[.int .i64 x, .int .i64 y, .int .i64 z] 22 := ⟨_, rfl⟩
  rw [← hoa]
  have B0 := hide ((Below.refl w.heap.size w).alloc (Nat.le_refl _) oa)
  generalize w.alloc oa = w0 at *
  clear hoa oa
  refine (small_any x y z _).mono ?_
  rintro e w1 ⟨b, p, s, rfl, hbd, hb⟩
  have B1 := hide (B0.out.trans (hb.mono B0.out.size))
  have HBD := hide hbd
  have hsR : rightS b p s = true := by unfold rightS; exact decide_eq_true (by omega)
  have HSR := hide hsR
  clear hb B0 hbd hsR
  go_upto_region 3 with (fail)
  obtain ⟨ob, hob⟩ : ∃ ob, ob = Obj.cells #[.int .i64 (b : Int), .int .i64 (p : Int), .int .i64 (s : Int)] 26 := ⟨_, rfl⟩
  rw [← hob]
  have SD2 := hide (show Side5 (w1.alloc ob) w1.heap.size b p s by unfold Side5; rw [heap_new, hob])
  have B2 := hide (B1.out.alloc B1.out.size ob)
  generalize w1.alloc ob = w2 at *
  generalize w1.heap.size = sb at *
  clear hob ob B1
  have c0 := cell_of_block SD2.out 0
  have c1 := cell_of_block SD2.out 1
  have c2 := cell_of_block SD2.out 2
  go_wp2_with fail
  refine (new_go b p s HSR.out bz _ w2 (HT.out.low5 B2.out) (by have := HTL.out; omega)).mono ?_
  rintro e w3 ⟨P, Q, G, rfl, hn, hb⟩
  have N3 := hide hn
  have B3 := hide (B2.out.trans (hb.mono B2.out.size))
  have SD3 := hide (SD2.out.below hb)
  have HB2 := hide B2.out.size
  clear hn hb c0 c1 c2 SD2
  have c0 := cell_of_block SD3.out 0
  have c1 := cell_of_block SD3.out 1
  have c2 := cell_of_block SD3.out 2
  go_wp2_with fail
  refine (rnew_any b p s (by have := HBD.out; omega) (by have := HBD.out; omega) (by have := HBD.out; omega) bz _ w3 (HT.out.low5 B3.out) (by have := HTL.out; omega)).mono ?_
  rintro e w4 ⟨c, pq, n, e5, a5, f5, m5, cp, G5, rfl, hr, hb⟩
  have HSHP := hide (show (badS (newS b p s) bz).L.length = b ∧ (badS (newS b p s) bz).pgs = p ∧ (badS (newS b p s) bz).size = s from ⟨by rw [badS_len, newS_len], by rw [badS_pgs]; rfl, by rw [badS_size]; rfl⟩)
  have HPL := hide ((new_play b p s (by have := HBD.out; omega) (by have := HBD.out; omega)).bads bz (by show 1 ≤ p; have := HBD.out; omega))
  generalize badS (newS b p s) bz = S0 at *
  have DU := hide (show Duo w w4 P Q w2.heap.size G c pq n e5 a5 f5 m5 cp G5 w3.heap.size S0 S0 from ⟨N3.out.below hb, hr, B3.out.trans (hb.mono B3.out.size), B2.out.size, B3.out.size⟩)
  have SD := hide (SD3.out.below hb)
  have HSH := hide (fun W (hW : NandAt W P Q w2.heap.size G S0) => show Calls Try.prog 11 #[.pointer (some ⟨P, 0, none⟩)] W fun e w' => e = .returned (.agg #[.int .i64 (b : Int), .int .i64 (p : Int), .int .i64 (s : Int)]) ∧ Below W.heap.size W w' by
    have h := shape_any P Q w2.heap.size G S0 W hW
    rw [HSHP.out.1, HSHP.out.2.1, HSHP.out.2.2] at h
    exact h)
  clear hr hb N3 B3 SD3 HT HTL HSR c0 c1 c2 B2 HB2 HSHP
  generalize w2.heap.size = B2z at *
  generalize w3.heap.size = B3z at *
  go_upto_region 5 with (fail)
  have DU0 := hide DU.out.drew
  have SD0 := hide (show Side5 w4.drew sb b p s from SD.out)
  clear DU SD
  refine wp_region_held_drew (S := (fun W => W.cell? ⟨sb, 0, none⟩ = some (.int .i64 (b : Int)) ∧ W.cell? ⟨sb, 1, none⟩ = some (.int .i64 (p : Int)) ∧ W.cell? ⟨sb, 2, none⟩ = some (.int .i64 (s : Int)))) (by kernel_rfl) (⟨cell_of_block SD0.out 0, cell_of_block SD0.out 1, cell_of_block SD0.out 2⟩) (fun hHeld => ?_)
  generalize w4.drew = v0 at *
  refine wpAnyH_ready (rs := [0]) (by kernel_rfl) (by simp) (AllReadyH.cons (o := { dst := some 45, op := Op.call { callee := Callee.value (Operand.func 10), args := #[], argTypes := #[] }, type := 4, pos := "law.go:64", after := #[], guard := none }) rfl (fun K hK => ?_) AllReadyH.nil)
  have hOld := hide hHeld
  clear hHeld
  go_simp
  refine (wakes_any _).mono ?_
  rintro e v1 ⟨rfl, hb⟩
  have DU1 := hide (DU0.out.below hb)
  have SD1 := hide (SD0.out.below hb)
  clear hb DU0 SD0
  (try go_wp2_with fail)
  refine hK.out _ _ (⟨cell_of_block SD1.out 0, cell_of_block SD1.out 1, cell_of_block SD1.out 2⟩) (fun hHeld => ?_)
  clear hK K hOld
  try simp only [Act.put, List.setIfInBounds_toArray, List.set_cons_zero, List.set_cons_succ]
  refine wpAnyH_take (i := 1) (oi := { dst := some 46, op := Op.unOp UnOp.not 4 (Operand.tmp 45), type := 4, pos := "law.go:64", after := #[{ on := 0, ground := Ground.data }], guard := none }) (v := ?_) rfl (by kernel_rfl) (by kernel_rfl) (by kernel_rfl) (fun _ _ _ h => h) (Or.inl ⟨by kernel_rfl, ?_⟩) hHeld ?_
  rotate_left
  · (intro w hSw; (try dsimp only at hSw); go_simp); try with_reducible rfl
  try simp only [Act.put, List.setIfInBounds_toArray, List.set_cons_zero, List.set_cons_succ]
  refine wpAnyH_take (i := 2) (oi := { dst := some 47, op := Op.move (Operand.tmp 46), type := 4, pos := "law.go:64", after := #[{ on := 1, ground := Ground.data }, { on := 0, ground := Ground.chain }], guard := none }) (v := ?_) rfl (by kernel_rfl) (by kernel_rfl) (by kernel_rfl) (fun _ _ _ h => h) (Or.inl ⟨by kernel_rfl, ?_⟩) hHeld ?_
  rotate_left
  · (intro w hSw; (try dsimp only at hSw); go_simp); try with_reducible rfl
  try simp only [Act.put, List.setIfInBounds_toArray, List.set_cons_zero, List.set_cons_succ]
  refine wpAnyH_take (i := 3) (oi := { dst := some 48, op := Op.move (Operand.tmp 9), type := 29, pos := "law.go:64", after := #[{ on := 2, ground := Ground.guard }], guard := some (2, false) }) (v := ?_) rfl (by kernel_rfl) (by kernel_rfl) (by kernel_rfl) (fun _ _ _ h => h) (Or.inl ⟨by kernel_rfl, ?_⟩) hHeld ?_
  rotate_left
  · (intro w hSw; (try dsimp only at hSw); go_simp); try with_reducible rfl
  try simp only [Act.put, List.setIfInBounds_toArray, List.set_cons_zero, List.set_cons_succ]
  refine wpAnyH_take (i := 4) (oi := { dst := some 49, op := Op.binOp BinOp.neq 29 (Operand.tmp 48) (Operand.const (Value.int IntKind.i64 0)) 29, type := 4, pos := "law.go:64", after := #[{ on := 3, ground := Ground.data }, { on := 2, ground := Ground.guard }], guard := some (2, false) }) (v := ?_) rfl (by kernel_rfl) (by kernel_rfl) (by kernel_rfl) (fun _ _ _ h => h) (Or.inl ⟨by kernel_rfl, ?_⟩) hHeld ?_
  rotate_left
  · (intro w hSw; (try dsimp only at hSw); go_simp); try with_reducible rfl
  try simp only [Act.put, List.setIfInBounds_toArray, List.set_cons_zero, List.set_cons_succ]
  refine wpAnyH_take (i := 5) (oi := { dst := some 50, op := Op.pick (Operand.tmp 47) (Operand.const (Value.bool true)) (Operand.tmp 49), type := 4, pos := "law.go:64", after := #[{ on := 2, ground := Ground.data }, { on := 4, ground := Ground.data }], guard := none }) (v := ?_) rfl (by kernel_rfl) (by kernel_rfl) (by kernel_rfl) (fun _ _ _ h => h) (Or.inl ⟨by kernel_rfl, ?_⟩) hHeld ?_
  rotate_left
  · (intro w hSw; (try dsimp only at hSw); go_simp); try with_reducible rfl
  try simp only [Act.put, List.setIfInBounds_toArray, List.set_cons_zero, List.set_cons_succ]
  refine wpAnyH_take (i := 6) (oi := { dst := some 51, op := Op.move (Operand.tmp 50), type := 4, pos := "law.go:64", after := #[{ on := 5, ground := Ground.data }, { on := 2, ground := Ground.chain }], guard := none }) (v := ?_) rfl (by kernel_rfl) (by kernel_rfl) (by kernel_rfl) (fun _ _ _ h => h) (Or.inl ⟨by kernel_rfl, ?_⟩) hHeld ?_
  rotate_left
  · (intro w hSw; (try dsimp only at hSw); go_simp); try with_reducible rfl
  try simp only [Act.put, List.setIfInBounds_toArray, List.set_cons_zero, List.set_cons_succ]
  refine wpAnyH_take (i := 7) (oi := { dst := some 52, op := Op.move (Operand.tmp 8), type := 28, pos := "law.go:64", after := #[{ on := 6, ground := Ground.guard }], guard := some (6, false) }) (v := ?_) rfl (by kernel_rfl) (by kernel_rfl) (by kernel_rfl) (fun _ _ _ h => h) (Or.inl ⟨by kernel_rfl, ?_⟩) hHeld ?_
  rotate_left
  · (intro w hSw; (try dsimp only at hSw); go_simp); try with_reducible rfl
  try simp only [Act.put, List.setIfInBounds_toArray, List.set_cons_zero, List.set_cons_succ]
  refine wpAnyH_take (i := 8) (oi := { dst := some 53, op := Op.binOp BinOp.eql 28 (Operand.tmp 52) (Operand.const (Value.pointer none)) 28, type := 4, pos := "law.go:64", after := #[{ on := 7, ground := Ground.data }, { on := 6, ground := Ground.guard }], guard := some (6, false) }) (v := ?_) rfl (by kernel_rfl) (by kernel_rfl) (by kernel_rfl) (fun _ _ _ h => h) (Or.inl ⟨by kernel_rfl, ?_⟩) hHeld ?_
  rotate_left
  · (intro w hSw; (try dsimp only at hSw); go_simp); try with_reducible rfl
  try simp only [Act.put, List.setIfInBounds_toArray, List.set_cons_zero, List.set_cons_succ]
  refine wpAnyH_take (i := 9) (oi := { dst := some 54, op := Op.pick (Operand.tmp 51) (Operand.const (Value.bool true)) (Operand.tmp 53), type := 4, pos := "law.go:64", after := #[{ on := 6, ground := Ground.data }, { on := 8, ground := Ground.data }], guard := none }) (v := ?_) rfl (by kernel_rfl) (by kernel_rfl) (by kernel_rfl) (fun _ _ _ h => h) (Or.inl ⟨by kernel_rfl, ?_⟩) hHeld ?_
  rotate_left
  · (intro w hSw; (try dsimp only at hSw); go_simp); try with_reducible rfl
  try simp only [Act.put, List.setIfInBounds_toArray, List.set_cons_zero, List.set_cons_succ]
  refine wpAnyH_take (i := 10) (oi := { dst := some 55, op := Op.move (Operand.tmp 54), type := 4, pos := "law.go:64", after := #[{ on := 9, ground := Ground.data }, { on := 6, ground := Ground.chain }], guard := none }) (v := ?_) rfl (by kernel_rfl) (by kernel_rfl) (by kernel_rfl) (fun _ _ _ h => h) (Or.inl ⟨by kernel_rfl, ?_⟩) hHeld ?_
  rotate_left
  · (intro w hSw; (try dsimp only at hSw); go_simp); try with_reducible rfl
  try simp only [Act.put, List.setIfInBounds_toArray, List.set_cons_zero, List.set_cons_succ]
  refine wpAnyH_take (i := 11) (oi := { dst := some 56, op := Op.move (Operand.tmp 8), type := 28, pos := "law.go:64", after := #[{ on := 10, ground := Ground.guard }], guard := some (10, false) }) (v := ?_) rfl (by kernel_rfl) (by kernel_rfl) (by kernel_rfl) (fun _ _ _ h => h) (Or.inl ⟨by kernel_rfl, ?_⟩) hHeld ?_
  rotate_left
  · (intro w hSw; (try dsimp only at hSw); go_simp); try with_reducible rfl
  try simp only [Act.put, List.setIfInBounds_toArray, List.set_cons_zero, List.set_cons_succ]
  refine wpAnyH_take (i := 13) (oi := { dst := some 58, op := Op.load 26 (Operand.tmp 7), type := 26, pos := "law.go:64", after := #[{ on := 10, ground := Ground.guard }], guard := some (10, false) }) (v := ?_) rfl (by kernel_rfl) (by kernel_rfl) (by kernel_rfl) (fun _ _ _ h => h) (Or.inl ⟨by kernel_rfl, ?_⟩) hHeld ?_
  rotate_left
  · (intro w hSw; (try dsimp only at hSw); go_simp); try with_reducible rfl
  try simp only [Act.put, List.setIfInBounds_toArray, List.set_cons_zero, List.set_cons_succ]
  refine wpAnyH_ready (rs := [12]) (by kernel_rfl) (by simp) (AllReadyH.cons (o := { dst := some 57, op := Op.call { callee := Callee.value (Operand.func 11), args := #[Operand.tmp 56], argTypes := #[28] }, type := 26, pos := "law.go:64", after := #[{ on := 11, ground := Ground.data }, { on := 10, ground := Ground.chain }, { on := 10, ground := Ground.guard }], guard := some (10, false) }) rfl (fun K hK => ?_) AllReadyH.nil)
  have hOld := hide hHeld
  clear hHeld
  go_simp
  refine (HSH.out _ DU1.out.nand).mono ?_
  rintro e v2 ⟨rfl, hb⟩
  have DU2 := hide (DU1.out.below hb)
  have SD2 := hide (SD1.out.below hb)
  clear hb DU1 SD1
  (try go_wp2_with fail)
  refine hK.out _ _ (⟨cell_of_block SD2.out 0, cell_of_block SD2.out 1, cell_of_block SD2.out 2⟩) (fun hHeld => ?_)
  clear hK K hOld
  try simp only [Act.put, List.setIfInBounds_toArray, List.set_cons_zero, List.set_cons_succ]
  refine wpAnyH_take (i := 14) (oi := { dst := some 59, op := Op.binOp BinOp.neq 26 (Operand.tmp 57) (Operand.tmp 58) 26, type := 4, pos := "law.go:64", after := #[{ on := 12, ground := Ground.data }, { on := 13, ground := Ground.data }, { on := 10, ground := Ground.guard }], guard := some (10, false) }) (v := ?_) rfl (by kernel_rfl) (by kernel_rfl) (by kernel_rfl) (fun _ _ _ h => h) (Or.inl ⟨by kernel_rfl, ?_⟩) hHeld ?_
  rotate_left
  · (intro w hSw; (try dsimp only at hSw); go_simp); try with_reducible rfl
  try simp only [Act.put, List.setIfInBounds_toArray, List.set_cons_zero, List.set_cons_succ]
  refine wpAnyH_take (i := 15) (oi := { dst := some 60, op := Op.pick (Operand.tmp 55) (Operand.const (Value.bool true)) (Operand.tmp 59), type := 4, pos := "law.go:64", after := #[{ on := 10, ground := Ground.data }, { on := 14, ground := Ground.data }], guard := none }) (v := ?_) rfl (by kernel_rfl) (by kernel_rfl) (by kernel_rfl) (fun _ _ _ h => h) (Or.inl ⟨by kernel_rfl, ?_⟩) hHeld ?_
  rotate_left
  · (intro w hSw; (try dsimp only at hSw); go_simp); try with_reducible rfl
  try simp only [Act.put, List.setIfInBounds_toArray, List.set_cons_zero, List.set_cons_succ]
  refine wpAnyH_take (i := 16) (oi := { dst := some 61, op := Op.move (Operand.tmp 60), type := 4, pos := "law.go:64", after := #[{ on := 15, ground := Ground.data }, { on := 12, ground := Ground.chain }], guard := none }) (v := ?_) rfl (by kernel_rfl) (by kernel_rfl) (by kernel_rfl) (fun _ _ _ h => h) (Or.inl ⟨by kernel_rfl, ?_⟩) hHeld ?_
  rotate_left
  · (intro w hSw; (try dsimp only at hSw); go_simp); try with_reducible rfl
  try simp only [Act.put, List.setIfInBounds_toArray, List.set_cons_zero, List.set_cons_succ]
  refine wpAnyH_take (i := 17) (oi := { dst := some 62, op := Op.move (Operand.tmp 8), type := 28, pos := "law.go:64", after := #[{ on := 16, ground := Ground.guard }], guard := some (16, false) }) (v := ?_) rfl (by kernel_rfl) (by kernel_rfl) (by kernel_rfl) (fun _ _ _ h => h) (Or.inl ⟨by kernel_rfl, ?_⟩) hHeld ?_
  rotate_left
  · (intro w hSw; (try dsimp only at hSw); go_simp); try with_reducible rfl
  try simp only [Act.put, List.setIfInBounds_toArray, List.set_cons_zero, List.set_cons_succ]
  refine wpAnyH_take (i := 18) (oi := { dst := some 63, op := Op.move (Operand.tmp 10), type := 32, pos := "law.go:64", after := #[{ on := 16, ground := Ground.guard }], guard := some (16, false) }) (v := ?_) rfl (by kernel_rfl) (by kernel_rfl) (by kernel_rfl) (fun _ _ _ h => h) (Or.inl ⟨by kernel_rfl, ?_⟩) hHeld ?_
  rotate_left
  · (intro w hSw; (try dsimp only at hSw); go_simp); try with_reducible rfl
  try simp only [Act.put, List.setIfInBounds_toArray, List.set_cons_zero, List.set_cons_succ]
  refine wpAnyH_ready (rs := [19]) (by kernel_rfl) (by simp) (AllReadyH.cons (o := { dst := some 64, op := Op.call { callee := Callee.value (Operand.func 12), args := #[Operand.tmp 62, Operand.tmp 63], argTypes := #[28, 32] }, type := 4, pos := "law.go:64", after := #[{ on := 17, ground := Ground.data }, { on := 18, ground := Ground.data }, { on := 16, ground := Ground.chain }, { on := 16, ground := Ground.guard }], guard := some (16, false) }) rfl (fun K hK => ?_) AllReadyH.nil)
  have hOld := hide hHeld
  clear hHeld
  go_simp
  refine (same_any HPL.out.size HPL.out.sized _ DU2.out.nand DU2.out.ref).mono ?_
  rintro e v3 ⟨rfl, hb⟩
  have DU3 := hide (DU2.out.below hb)
  have SD3 := hide (SD2.out.below hb)
  clear hb DU2 SD2
  (try go_wp2_with fail)
  refine hK.out _ _ (⟨cell_of_block SD3.out 0, cell_of_block SD3.out 1, cell_of_block SD3.out 2⟩) (fun hHeld => ?_)
  clear hK K hOld
  try simp only [Act.put, List.setIfInBounds_toArray, List.set_cons_zero, List.set_cons_succ]
  refine wpAnyH_take (i := 20) (oi := { dst := some 65, op := Op.unOp UnOp.not 4 (Operand.tmp 64), type := 4, pos := "law.go:64", after := #[{ on := 19, ground := Ground.data }, { on := 16, ground := Ground.guard }], guard := some (16, false) }) (v := ?_) rfl (by kernel_rfl) (by kernel_rfl) (by kernel_rfl) (fun _ _ _ h => h) (Or.inl ⟨by kernel_rfl, ?_⟩) hHeld ?_
  rotate_left
  · (intro w hSw; (try dsimp only at hSw); go_simp); try with_reducible rfl
  try simp only [Act.put, List.setIfInBounds_toArray, List.set_cons_zero, List.set_cons_succ]
  refine wpAnyH_take (i := 21) (oi := { dst := some 66, op := Op.pick (Operand.tmp 61) (Operand.const (Value.bool true)) (Operand.tmp 65), type := 4, pos := "law.go:64", after := #[{ on := 16, ground := Ground.data }, { on := 20, ground := Ground.data }], guard := none }) (v := ?_) rfl (by kernel_rfl) (by kernel_rfl) (by kernel_rfl) (fun _ _ _ h => h) (Or.inl ⟨by kernel_rfl, ?_⟩) hHeld ?_
  rotate_left
  · (intro w hSw; (try dsimp only at hSw); go_simp); try with_reducible rfl
  try simp only [Act.put, List.setIfInBounds_toArray, List.set_cons_zero, List.set_cons_succ]
  refine wpAnyH_done (by kernel_rfl) ?_ _
  clear hHeld
  clear HSH
  go_wp2_with fail
  go_loopw [73] (fun z W => ∃ (j : Nat) (S : ChipM), j ≤ m ∧ z = .int .i64 j ∧ Duo w W P Q B2z G c pq n e5 a5 f5 m5 cp G5 B3z S S ∧ PlayOk S j ∧ Side5 W sb b p s) (fun z _ => m - (intOf z).toNat)
  case atStart => exact ⟨0, S0, by omega, rfl, DU3.out, HPL.out, SD3.out⟩
  case round =>
    clear DU3 SD3 HPL
    obtain ⟨j, S, hj, rfl, hdu, hpo, hsd⟩ := hrel
    have DUJ := hide hdu
    have SDJ := hide hsd
    have HPO := hide hpo
    clear hdu hpo hsd
    clear S0
    by_cases hlt : j < m
    · obtain ⟨b9, off, rfl, hbl, c0, c1, c2, c3, c4⟩ := (HIN.out.below DUJ.out.low) j (by omega)
      have hx := HOK.out _ (show L.getD j act0 ∈ L by simp [List.getD, show j < L.length by omega])
      generalize L.getD j act0 = x at *
      obtain ⟨xd, xb, xp, xx, xy⟩ := x
      obtain ⟨⟨d0, d1⟩, ⟨b0, b1⟩, ⟨p0, p1⟩, hx3, hx4⟩ := hx
      dsimp only at *
      obtain ⟨t, ht8, hdF, hdI⟩ : ∃ k : Nat, k < 8 ∧ (if xd > 0 then xd else 0) % 8 = (k : Int) ∧ (max 0 xd) % 8 = (k : Int) := by
        refine ⟨((max 0 xd) % 8).toNat, by omega, ?_, by omega⟩
        split <;> omega
      obtain ⟨ma, hma⟩ : ∃ ma : Nat, min xx.size 50 = ma := ⟨_, rfl⟩
      have hma1 : ma ≤ xx.size := by omega
      have hmaF : (if (50 : Int) < (xx.size : Int) then (50 : Int) else (xx.size : Int)) = (ma : Int) := by split <;> omega
      have hmaI : min (xx.size : Int) 50 = (ma : Int) := by omega
      have HMA := hide (show (xx.extract 0 ma).size ≤ 50 by rw [ByteArray.size_extract]; omega)
      obtain ⟨mb, hmb⟩ : ∃ mb : Nat, min xy.size 50 = mb := ⟨_, rfl⟩
      have hmb1 : mb ≤ xy.size := by omega
      have hmbF : (if (50 : Int) < (xy.size : Int) then (50 : Int) else (xy.size : Int)) = (mb : Int) := by split <;> omega
      have hmbI : min (xy.size : Int) 50 = (mb : Int) := by omega
      have HMB := hide (show (xy.extract 0 mb).size ≤ 50 by rw [ByteArray.size_extract]; omega)
      clear hma hmb
      go_upto_region 10 with (fail)
      obtain ⟨ob, hob⟩ : ∃ ob, ob = (Obj.cells #[.int .i64 xd, .int .i64 xb, .int .i64 xp, .string xx, .string xy] 38) := ⟨_, rfl⟩
      rw [← hob]
      have hal := (Below.refl wr.heap.size wr).alloc (Nat.le_refl _) ob
      have AC5 := hide (show Acts5 (wr.alloc ob) wr.heap.size ⟨xd, xb, xp, xx, xy⟩ by unfold Acts5; rw [heap_new, hob])
      have DU5 := hide (DUJ.out.below hal)
      have SD5 := hide (SDJ.out.below hal)
      clear hal DUJ SDJ hbl c0 c1 c2 c3 c4
      generalize wr.alloc ob = w5 at *
      generalize wr.heap.size = xq at *
      clear hob ob
      have e0 := cell_of_block AC5.out 0
      have e1 := cell_of_block AC5.out 1
      have e2 := cell_of_block AC5.out 2
      have e3 := cell_of_block AC5.out 3
      have e4 := cell_of_block AC5.out 4
      go_quiet (fail)
      generalize hv : w5.drewN _ = w6
      have DU6 := hide (show Duo w w6 P Q B2z G c pq n e5 a5 f5 m5 cp G5 B3z S S from hv ▸ DU5.out.drewN _)
      have SD6 := hide (show Side5 w6 sb b p s from hv ▸ SD5.out)
      have AC6 := hide (show Acts5 w6 xq ⟨xd, xb, xp, xx, xy⟩ from hv ▸ AC5.out)
      clear hv
      clear e0 e1 e2 e3 e4 DU5 SD5 AC5 hmaF hmaI hmbF hmbI hma1 hmb1
      generalize xx.extract 0 ma = ya at *
      generalize xy.extract 0 mb = yb at *
      have e0 := cell_of_block AC6.out 0
      go_upto_block 2 with (fail)
      rw [hdI]
      clear hdI hdF e0 d0 d1 hx3 hx4
      go_cut [15] (fun ok W => ok = .bool true ∧ ∃ S2, Duo w W P Q B2z G c pq n e5 a5 f5 m5 cp G5 B3z S2 S2 ∧ PlayOk S2 (j + 1) ∧ Side5 W sb b p s)
      case first =>
        rcases (show t = 0 ∨ t = 1 ∨ t = 2 ∨ t = 3 ∨ t = 4 ∨ t = 5 ∨ t = 6 ∨ t = 7 by omega) with rfl | rfl | rfl | rfl | rfl | rfl | rfl | rfl
        · clear ht8
          as_aux_lemma =>
            have HFA := hide (fun W => full_any ya (by have := HMA.out; omega) s (by have := HBD.out; omega) W)
            have HFB := hide (fun W => full_any yb (by have := HMB.out; omega) 32 (by decide) W)
            generalize fullB ya s = td at *
            generalize fullB yb 32 = te at *
            have c2 := cell_of_block SD6.out 2
            go_wp2_with fail
            refine (HFA.out _).mono ?_
            rintro e w7 ⟨rfl, hb⟩
            have DU7 := hide (DU6.out.below hb)
            have SD7 := hide (SD6.out.below hb)
            have AC7 := hide (AC6.out.below hb)
            clear hb DU6 SD6 AC6 c2 HFA
            go_wp2_with fail
            refine (HFB.out _).mono ?_
            rintro e w8 ⟨rfl, hb⟩
            have DU8 := hide (DU7.out.below hb)
            have SD8 := hide (SD7.out.below hb)
            have AC8 := hide (AC7.out.below hb)
            clear hb DU7 SD7 AC7 HFB
            go_upto_region 16 with (fail)
            have DX0 := hide DU8.out.drew
            have SX0 := hide (show Side5 w8.drew sb b p s from SD8.out)
            have AX0 := hide (show Acts5 w8.drew xq ⟨xd, xb, xp, xx, xy⟩ from AC8.out)
            refine wp_region_held_drew (S := (fun W => W.cell? ⟨xq, 1, none⟩ = some (.int .i64 xb) ∧ W.cell? ⟨xq, 2, none⟩ = some (.int .i64 xp))) (by kernel_rfl) (⟨cell_of_block AX0.out 1, cell_of_block AX0.out 2⟩) (fun hHeld => ?_)
            generalize w8.drew = v0 at *
            refine wpAnyH_take (i := 0) (oi := { dst := some 104, op := Op.move (Operand.tmp 8), type := 28, pos := "law.go:73", after := #[], guard := none }) (v := ?_) rfl (by kernel_rfl) (by kernel_rfl) (by kernel_rfl) (fun _ _ _ h => h) (Or.inl ⟨by kernel_rfl, ?_⟩) hHeld ?_
            rotate_left
            · (intro w hSw; (try dsimp only at hSw); go_simp); try with_reducible rfl
            try simp only [Act.put, List.setIfInBounds_toArray, List.set_cons_zero, List.set_cons_succ]
            refine wpAnyH_take (i := 1) (oi := { dst := some 105, op := Op.fieldAddr 38 (Operand.tmp 12) 1, type := 0, pos := "law.go:73", after := #[], guard := none }) (v := ?_) rfl (by kernel_rfl) (by kernel_rfl) (by kernel_rfl) (fun _ _ _ h => h) (Or.inl ⟨by kernel_rfl, ?_⟩) hHeld ?_
            rotate_left
            · (intro w hSw; (try dsimp only at hSw); go_simp); try with_reducible rfl
            try simp only [Act.put, List.setIfInBounds_toArray, List.set_cons_zero, List.set_cons_succ]
            refine wpAnyH_take (i := 2) (oi := { dst := some 106, op := Op.load 3 (Operand.tmp 105), type := 3, pos := "law.go:73", after := #[{ on := 1, ground := Ground.data }], guard := none }) (v := ?_) rfl (by kernel_rfl) (by kernel_rfl) (by kernel_rfl) (fun _ _ _ h => h) (Or.inl ⟨by kernel_rfl, ?_⟩) hHeld ?_
            rotate_left
            · (intro w hSw; (try dsimp only at hSw); go_simp); try with_reducible rfl
            try simp only [Act.put, List.setIfInBounds_toArray, List.set_cons_zero, List.set_cons_succ]
            refine wpAnyH_take (i := 3) (oi := { dst := some 107, op := Op.fieldAddr 38 (Operand.tmp 12) 2, type := 0, pos := "law.go:73", after := #[], guard := none }) (v := ?_) rfl (by kernel_rfl) (by kernel_rfl) (by kernel_rfl) (fun _ _ _ h => h) (Or.inl ⟨by kernel_rfl, ?_⟩) hHeld ?_
            rotate_left
            · (intro w hSw; (try dsimp only at hSw); go_simp); try with_reducible rfl
            try simp only [Act.put, List.setIfInBounds_toArray, List.set_cons_zero, List.set_cons_succ]
            refine wpAnyH_take (i := 4) (oi := { dst := some 108, op := Op.load 3 (Operand.tmp 107), type := 3, pos := "law.go:73", after := #[{ on := 3, ground := Ground.data }], guard := none }) (v := ?_) rfl (by kernel_rfl) (by kernel_rfl) (by kernel_rfl) (fun _ _ _ h => h) (Or.inl ⟨by kernel_rfl, ?_⟩) hHeld ?_
            rotate_left
            · (intro w hSw; (try dsimp only at hSw); go_simp); try with_reducible rfl
            try simp only [Act.put, List.setIfInBounds_toArray, List.set_cons_zero, List.set_cons_succ]
            refine wpAnyH_take (i := 5) (oi := { dst := some 109, op := Op.move (Operand.tmp 16), type := 9, pos := "law.go:73", after := #[], guard := none }) (v := ?_) rfl (by kernel_rfl) (by kernel_rfl) (by kernel_rfl) (fun _ _ _ h => h) (Or.inl ⟨by kernel_rfl, ?_⟩) hHeld ?_
            rotate_left
            · (intro w hSw; (try dsimp only at hSw); go_simp); try with_reducible rfl
            try simp only [Act.put, List.setIfInBounds_toArray, List.set_cons_zero, List.set_cons_succ]
            refine wpAnyH_take (i := 6) (oi := { dst := some 110, op := Op.move (Operand.tmp 17), type := 9, pos := "law.go:73", after := #[], guard := none }) (v := ?_) rfl (by kernel_rfl) (by kernel_rfl) (by kernel_rfl) (fun _ _ _ h => h) (Or.inl ⟨by kernel_rfl, ?_⟩) hHeld ?_
            rotate_left
            · (intro w hSw; (try dsimp only at hSw); go_simp); try with_reducible rfl
            try simp only [Act.put, List.setIfInBounds_toArray, List.set_cons_zero, List.set_cons_succ]
            refine wpAnyH_take (i := 8) (oi := { dst := some 112, op := Op.move (Operand.tmp 10), type := 32, pos := "law.go:73", after := #[], guard := none }) (v := ?_) rfl (by kernel_rfl) (by kernel_rfl) (by kernel_rfl) (fun _ _ _ h => h) (Or.inl ⟨by kernel_rfl, ?_⟩) hHeld ?_
            rotate_left
            · (intro w hSw; (try dsimp only at hSw); go_simp); try with_reducible rfl
            try simp only [Act.put, List.setIfInBounds_toArray, List.set_cons_zero, List.set_cons_succ]
            refine wpAnyH_take (i := 9) (oi := { dst := some 113, op := Op.fieldAddr 38 (Operand.tmp 12) 1, type := 0, pos := "law.go:73", after := #[], guard := none }) (v := ?_) rfl (by kernel_rfl) (by kernel_rfl) (by kernel_rfl) (fun _ _ _ h => h) (Or.inl ⟨by kernel_rfl, ?_⟩) hHeld ?_
            rotate_left
            · (intro w hSw; (try dsimp only at hSw); go_simp); try with_reducible rfl
            try simp only [Act.put, List.setIfInBounds_toArray, List.set_cons_zero, List.set_cons_succ]
            refine wpAnyH_take (i := 10) (oi := { dst := some 114, op := Op.load 3 (Operand.tmp 113), type := 3, pos := "law.go:73", after := #[{ on := 9, ground := Ground.data }], guard := none }) (v := ?_) rfl (by kernel_rfl) (by kernel_rfl) (by kernel_rfl) (fun _ _ _ h => h) (Or.inl ⟨by kernel_rfl, ?_⟩) hHeld ?_
            rotate_left
            · (intro w hSw; (try dsimp only at hSw); go_simp); try with_reducible rfl
            try simp only [Act.put, List.setIfInBounds_toArray, List.set_cons_zero, List.set_cons_succ]
            refine wpAnyH_take (i := 11) (oi := { dst := some 115, op := Op.fieldAddr 38 (Operand.tmp 12) 2, type := 0, pos := "law.go:73", after := #[], guard := none }) (v := ?_) rfl (by kernel_rfl) (by kernel_rfl) (by kernel_rfl) (fun _ _ _ h => h) (Or.inl ⟨by kernel_rfl, ?_⟩) hHeld ?_
            rotate_left
            · (intro w hSw; (try dsimp only at hSw); go_simp); try with_reducible rfl
            try simp only [Act.put, List.setIfInBounds_toArray, List.set_cons_zero, List.set_cons_succ]
            refine wpAnyH_take (i := 12) (oi := { dst := some 116, op := Op.load 3 (Operand.tmp 115), type := 3, pos := "law.go:73", after := #[{ on := 11, ground := Ground.data }], guard := none }) (v := ?_) rfl (by kernel_rfl) (by kernel_rfl) (by kernel_rfl) (fun _ _ _ h => h) (Or.inl ⟨by kernel_rfl, ?_⟩) hHeld ?_
            rotate_left
            · (intro w hSw; (try dsimp only at hSw); go_simp); try with_reducible rfl
            try simp only [Act.put, List.setIfInBounds_toArray, List.set_cons_zero, List.set_cons_succ]
            refine wpAnyH_take (i := 13) (oi := { dst := some 117, op := Op.move (Operand.tmp 16), type := 9, pos := "law.go:73", after := #[], guard := none }) (v := ?_) rfl (by kernel_rfl) (by kernel_rfl) (by kernel_rfl) (fun _ _ _ h => h) (Or.inl ⟨by kernel_rfl, ?_⟩) hHeld ?_
            rotate_left
            · (intro w hSw; (try dsimp only at hSw); go_simp); try with_reducible rfl
            try simp only [Act.put, List.setIfInBounds_toArray, List.set_cons_zero, List.set_cons_succ]
            refine wpAnyH_take (i := 14) (oi := { dst := some 118, op := Op.move (Operand.tmp 17), type := 9, pos := "law.go:73", after := #[], guard := none }) (v := ?_) rfl (by kernel_rfl) (by kernel_rfl) (by kernel_rfl) (fun _ _ _ h => h) (Or.inl ⟨by kernel_rfl, ?_⟩) hHeld ?_
            rotate_left
            · (intro w hSw; (try dsimp only at hSw); go_simp); try with_reducible rfl
            try simp only [Act.put, List.setIfInBounds_toArray, List.set_cons_zero, List.set_cons_succ]
            refine wpAnyH_ready (rs := [7]) (by kernel_rfl) (by simp) (AllReadyH.cons (o := { dst := some 111, op := Op.call { callee := Callee.value (Operand.func 14), args := #[Operand.tmp 104, Operand.tmp 106, Operand.tmp 108, Operand.tmp 109, Operand.tmp 110], argTypes := #[28, 3, 3, 9, 9] }, type := 29, pos := "law.go:73", after := #[{ on := 0, ground := Ground.data }, { on := 2, ground := Ground.data }, { on := 4, ground := Ground.data }, { on := 5, ground := Ground.data }, { on := 6, ground := Ground.data }], guard := none }) rfl (fun K hK => ?_) AllReadyH.nil)
            have hOld := hide hHeld
            clear hHeld
            go_simp
            refine (program_any P Q B2z G S (HPO.out.nand (by omega)) xb xp td te _ DX0.out.nand).mono ?_
            rintro e v1 ⟨rfl, hn, ht⟩
            have DX1 := hide (DX0.out.nandT hn ht)
            have SX1 := hide (SX0.out.turn ht)
            have AX1 := hide (AX0.out.turn ht)
            clear hn ht DX0 SX0 AX0
            (try go_wp2_with fail)
            refine hK.out _ _ (⟨cell_of_block AX1.out 1, cell_of_block AX1.out 2⟩) (fun hHeld => ?_)
            clear hK K hOld
            try simp only [Act.put, List.setIfInBounds_toArray, List.set_cons_zero, List.set_cons_succ]
            refine wpAnyH_ready (rs := [15]) (by kernel_rfl) (by simp) (AllReadyH.cons (o := { dst := some 119, op := Op.call { callee := Callee.value (Operand.func 15), args := #[Operand.tmp 112, Operand.tmp 114, Operand.tmp 116, Operand.tmp 117, Operand.tmp 118], argTypes := #[32, 3, 3, 9, 9] }, type := 3, pos := "law.go:73", after := #[{ on := 8, ground := Ground.data }, { on := 10, ground := Ground.data }, { on := 12, ground := Ground.data }, { on := 13, ground := Ground.data }, { on := 14, ground := Ground.data }, { on := 7, ground := Ground.chain }], guard := none }) rfl (fun K hK => ?_) AllReadyH.nil)
            have hOld := hide hHeld
            clear hHeld
            go_simp
            refine (rprog_any (HPO.out.nand (by omega)) HPO.out.blankOk xb xp td te _ DX1.out.ref).mono ?_
            rintro e v2 ⟨rfl, hn, ht⟩
            have DX2 := hide (DX1.out.refT hn ht)
            have SX2 := hide (SX1.out.rturn ht)
            have AX2 := hide (AX1.out.rturn ht)
            clear hn ht DX1 SX1 AX1
            (try go_wp2_with fail)
            refine hK.out _ _ (⟨cell_of_block AX2.out 1, cell_of_block AX2.out 2⟩) (fun hHeld => ?_)
            clear hK K hOld
            try simp only [Act.put, List.setIfInBounds_toArray, List.set_cons_zero, List.set_cons_succ]
            refine wpAnyH_take (i := 16) (oi := { dst := some 120, op := Op.binOp BinOp.eql 3 (Operand.tmp 111) (Operand.tmp 119) 3, type := 4, pos := "law.go:73", after := #[{ on := 7, ground := Ground.data }, { on := 15, ground := Ground.data }], guard := none }) (v := ?_) rfl (by kernel_rfl) (by kernel_rfl) (by kernel_rfl) (fun _ _ _ h => h) (Or.inl ⟨by kernel_rfl, ?_⟩) hHeld ?_
            rotate_left
            · (intro w hSw; (try dsimp only at hSw); go_simp); try with_reducible rfl
            try simp only [Act.put, List.setIfInBounds_toArray, List.set_cons_zero, List.set_cons_succ]
            refine wpAnyH_take (i := 17) (oi := { dst := some 15, op := Op.assign (Operand.tmp 120), type := 4, pos := "law.go:73", after := #[{ on := 16, ground := Ground.data }, { on := 15, ground := Ground.chain }, { on := 0, ground := Ground.phase }, { on := 1, ground := Ground.phase }, { on := 2, ground := Ground.phase }, { on := 3, ground := Ground.phase }, { on := 4, ground := Ground.phase }, { on := 5, ground := Ground.phase }, { on := 6, ground := Ground.phase }, { on := 7, ground := Ground.phase }, { on := 8, ground := Ground.phase }, { on := 9, ground := Ground.phase }, { on := 10, ground := Ground.phase }, { on := 11, ground := Ground.phase }, { on := 12, ground := Ground.phase }, { on := 13, ground := Ground.phase }, { on := 14, ground := Ground.phase }, { on := 15, ground := Ground.phase }, { on := 16, ground := Ground.phase }], guard := none }) (v := ?_) rfl (by kernel_rfl) (by kernel_rfl) (by kernel_rfl) (fun _ _ _ h => h) (Or.inl ⟨by kernel_rfl, ?_⟩) hHeld ?_
            rotate_left
            · (intro w hSw; (try dsimp only at hSw); go_simp); try with_reducible rfl
            try simp only [Act.put, List.setIfInBounds_toArray, List.set_cons_zero, List.set_cons_succ]
            refine wpAnyH_done (by kernel_rfl) ?_ _
            clear hHeld
            go_wp2_with fail
            go_meet
            exact ⟨by simp, _, DX2.out, HPO.out.prog xb xp td te, SX2.out⟩
        · clear ht8
          as_aux_lemma =>
            have HFA := hide (fun W => full_any ya (by have := HMA.out; omega) s (by have := HBD.out; omega) W)
            have HFB := hide (fun W => full_any yb (by have := HMB.out; omega) 32 (by decide) W)
            generalize fullB ya s = td at *
            generalize fullB yb 32 = te at *
            have c2 := cell_of_block SD6.out 2
            go_wp2_with fail
            refine (HFA.out _).mono ?_
            rintro e w7 ⟨rfl, hb⟩
            have DU7 := hide (DU6.out.below hb)
            have SD7 := hide (SD6.out.below hb)
            have AC7 := hide (AC6.out.below hb)
            clear hb DU6 SD6 AC6 c2 HFA
            go_wp2_with fail
            refine (HFB.out _).mono ?_
            rintro e w8 ⟨rfl, hb⟩
            have DU8 := hide (DU7.out.below hb)
            have SD8 := hide (SD7.out.below hb)
            have AC8 := hide (AC7.out.below hb)
            clear hb DU7 SD7 AC7 HFB
            go_upto_region 16 with (fail)
            have DX0 := hide DU8.out.drew
            have SX0 := hide (show Side5 w8.drew sb b p s from SD8.out)
            have AX0 := hide (show Acts5 w8.drew xq ⟨xd, xb, xp, xx, xy⟩ from AC8.out)
            refine wp_region_held_drew (S := (fun W => W.cell? ⟨xq, 1, none⟩ = some (.int .i64 xb) ∧ W.cell? ⟨xq, 2, none⟩ = some (.int .i64 xp))) (by kernel_rfl) (⟨cell_of_block AX0.out 1, cell_of_block AX0.out 2⟩) (fun hHeld => ?_)
            generalize w8.drew = v0 at *
            refine wpAnyH_take (i := 0) (oi := { dst := some 104, op := Op.move (Operand.tmp 8), type := 28, pos := "law.go:73", after := #[], guard := none }) (v := ?_) rfl (by kernel_rfl) (by kernel_rfl) (by kernel_rfl) (fun _ _ _ h => h) (Or.inl ⟨by kernel_rfl, ?_⟩) hHeld ?_
            rotate_left
            · (intro w hSw; (try dsimp only at hSw); go_simp); try with_reducible rfl
            try simp only [Act.put, List.setIfInBounds_toArray, List.set_cons_zero, List.set_cons_succ]
            refine wpAnyH_take (i := 1) (oi := { dst := some 105, op := Op.fieldAddr 38 (Operand.tmp 12) 1, type := 0, pos := "law.go:73", after := #[], guard := none }) (v := ?_) rfl (by kernel_rfl) (by kernel_rfl) (by kernel_rfl) (fun _ _ _ h => h) (Or.inl ⟨by kernel_rfl, ?_⟩) hHeld ?_
            rotate_left
            · (intro w hSw; (try dsimp only at hSw); go_simp); try with_reducible rfl
            try simp only [Act.put, List.setIfInBounds_toArray, List.set_cons_zero, List.set_cons_succ]
            refine wpAnyH_take (i := 2) (oi := { dst := some 106, op := Op.load 3 (Operand.tmp 105), type := 3, pos := "law.go:73", after := #[{ on := 1, ground := Ground.data }], guard := none }) (v := ?_) rfl (by kernel_rfl) (by kernel_rfl) (by kernel_rfl) (fun _ _ _ h => h) (Or.inl ⟨by kernel_rfl, ?_⟩) hHeld ?_
            rotate_left
            · (intro w hSw; (try dsimp only at hSw); go_simp); try with_reducible rfl
            try simp only [Act.put, List.setIfInBounds_toArray, List.set_cons_zero, List.set_cons_succ]
            refine wpAnyH_take (i := 3) (oi := { dst := some 107, op := Op.fieldAddr 38 (Operand.tmp 12) 2, type := 0, pos := "law.go:73", after := #[], guard := none }) (v := ?_) rfl (by kernel_rfl) (by kernel_rfl) (by kernel_rfl) (fun _ _ _ h => h) (Or.inl ⟨by kernel_rfl, ?_⟩) hHeld ?_
            rotate_left
            · (intro w hSw; (try dsimp only at hSw); go_simp); try with_reducible rfl
            try simp only [Act.put, List.setIfInBounds_toArray, List.set_cons_zero, List.set_cons_succ]
            refine wpAnyH_take (i := 4) (oi := { dst := some 108, op := Op.load 3 (Operand.tmp 107), type := 3, pos := "law.go:73", after := #[{ on := 3, ground := Ground.data }], guard := none }) (v := ?_) rfl (by kernel_rfl) (by kernel_rfl) (by kernel_rfl) (fun _ _ _ h => h) (Or.inl ⟨by kernel_rfl, ?_⟩) hHeld ?_
            rotate_left
            · (intro w hSw; (try dsimp only at hSw); go_simp); try with_reducible rfl
            try simp only [Act.put, List.setIfInBounds_toArray, List.set_cons_zero, List.set_cons_succ]
            refine wpAnyH_take (i := 5) (oi := { dst := some 109, op := Op.move (Operand.tmp 16), type := 9, pos := "law.go:73", after := #[], guard := none }) (v := ?_) rfl (by kernel_rfl) (by kernel_rfl) (by kernel_rfl) (fun _ _ _ h => h) (Or.inl ⟨by kernel_rfl, ?_⟩) hHeld ?_
            rotate_left
            · (intro w hSw; (try dsimp only at hSw); go_simp); try with_reducible rfl
            try simp only [Act.put, List.setIfInBounds_toArray, List.set_cons_zero, List.set_cons_succ]
            refine wpAnyH_take (i := 6) (oi := { dst := some 110, op := Op.move (Operand.tmp 17), type := 9, pos := "law.go:73", after := #[], guard := none }) (v := ?_) rfl (by kernel_rfl) (by kernel_rfl) (by kernel_rfl) (fun _ _ _ h => h) (Or.inl ⟨by kernel_rfl, ?_⟩) hHeld ?_
            rotate_left
            · (intro w hSw; (try dsimp only at hSw); go_simp); try with_reducible rfl
            try simp only [Act.put, List.setIfInBounds_toArray, List.set_cons_zero, List.set_cons_succ]
            refine wpAnyH_take (i := 8) (oi := { dst := some 112, op := Op.move (Operand.tmp 10), type := 32, pos := "law.go:73", after := #[], guard := none }) (v := ?_) rfl (by kernel_rfl) (by kernel_rfl) (by kernel_rfl) (fun _ _ _ h => h) (Or.inl ⟨by kernel_rfl, ?_⟩) hHeld ?_
            rotate_left
            · (intro w hSw; (try dsimp only at hSw); go_simp); try with_reducible rfl
            try simp only [Act.put, List.setIfInBounds_toArray, List.set_cons_zero, List.set_cons_succ]
            refine wpAnyH_take (i := 9) (oi := { dst := some 113, op := Op.fieldAddr 38 (Operand.tmp 12) 1, type := 0, pos := "law.go:73", after := #[], guard := none }) (v := ?_) rfl (by kernel_rfl) (by kernel_rfl) (by kernel_rfl) (fun _ _ _ h => h) (Or.inl ⟨by kernel_rfl, ?_⟩) hHeld ?_
            rotate_left
            · (intro w hSw; (try dsimp only at hSw); go_simp); try with_reducible rfl
            try simp only [Act.put, List.setIfInBounds_toArray, List.set_cons_zero, List.set_cons_succ]
            refine wpAnyH_take (i := 10) (oi := { dst := some 114, op := Op.load 3 (Operand.tmp 113), type := 3, pos := "law.go:73", after := #[{ on := 9, ground := Ground.data }], guard := none }) (v := ?_) rfl (by kernel_rfl) (by kernel_rfl) (by kernel_rfl) (fun _ _ _ h => h) (Or.inl ⟨by kernel_rfl, ?_⟩) hHeld ?_
            rotate_left
            · (intro w hSw; (try dsimp only at hSw); go_simp); try with_reducible rfl
            try simp only [Act.put, List.setIfInBounds_toArray, List.set_cons_zero, List.set_cons_succ]
            refine wpAnyH_take (i := 11) (oi := { dst := some 115, op := Op.fieldAddr 38 (Operand.tmp 12) 2, type := 0, pos := "law.go:73", after := #[], guard := none }) (v := ?_) rfl (by kernel_rfl) (by kernel_rfl) (by kernel_rfl) (fun _ _ _ h => h) (Or.inl ⟨by kernel_rfl, ?_⟩) hHeld ?_
            rotate_left
            · (intro w hSw; (try dsimp only at hSw); go_simp); try with_reducible rfl
            try simp only [Act.put, List.setIfInBounds_toArray, List.set_cons_zero, List.set_cons_succ]
            refine wpAnyH_take (i := 12) (oi := { dst := some 116, op := Op.load 3 (Operand.tmp 115), type := 3, pos := "law.go:73", after := #[{ on := 11, ground := Ground.data }], guard := none }) (v := ?_) rfl (by kernel_rfl) (by kernel_rfl) (by kernel_rfl) (fun _ _ _ h => h) (Or.inl ⟨by kernel_rfl, ?_⟩) hHeld ?_
            rotate_left
            · (intro w hSw; (try dsimp only at hSw); go_simp); try with_reducible rfl
            try simp only [Act.put, List.setIfInBounds_toArray, List.set_cons_zero, List.set_cons_succ]
            refine wpAnyH_take (i := 13) (oi := { dst := some 117, op := Op.move (Operand.tmp 16), type := 9, pos := "law.go:73", after := #[], guard := none }) (v := ?_) rfl (by kernel_rfl) (by kernel_rfl) (by kernel_rfl) (fun _ _ _ h => h) (Or.inl ⟨by kernel_rfl, ?_⟩) hHeld ?_
            rotate_left
            · (intro w hSw; (try dsimp only at hSw); go_simp); try with_reducible rfl
            try simp only [Act.put, List.setIfInBounds_toArray, List.set_cons_zero, List.set_cons_succ]
            refine wpAnyH_take (i := 14) (oi := { dst := some 118, op := Op.move (Operand.tmp 17), type := 9, pos := "law.go:73", after := #[], guard := none }) (v := ?_) rfl (by kernel_rfl) (by kernel_rfl) (by kernel_rfl) (fun _ _ _ h => h) (Or.inl ⟨by kernel_rfl, ?_⟩) hHeld ?_
            rotate_left
            · (intro w hSw; (try dsimp only at hSw); go_simp); try with_reducible rfl
            try simp only [Act.put, List.setIfInBounds_toArray, List.set_cons_zero, List.set_cons_succ]
            refine wpAnyH_ready (rs := [7]) (by kernel_rfl) (by simp) (AllReadyH.cons (o := { dst := some 111, op := Op.call { callee := Callee.value (Operand.func 14), args := #[Operand.tmp 104, Operand.tmp 106, Operand.tmp 108, Operand.tmp 109, Operand.tmp 110], argTypes := #[28, 3, 3, 9, 9] }, type := 29, pos := "law.go:73", after := #[{ on := 0, ground := Ground.data }, { on := 2, ground := Ground.data }, { on := 4, ground := Ground.data }, { on := 5, ground := Ground.data }, { on := 6, ground := Ground.data }], guard := none }) rfl (fun K hK => ?_) AllReadyH.nil)
            have hOld := hide hHeld
            clear hHeld
            go_simp
            refine (program_any P Q B2z G S (HPO.out.nand (by omega)) xb xp td te _ DX0.out.nand).mono ?_
            rintro e v1 ⟨rfl, hn, ht⟩
            have DX1 := hide (DX0.out.nandT hn ht)
            have SX1 := hide (SX0.out.turn ht)
            have AX1 := hide (AX0.out.turn ht)
            clear hn ht DX0 SX0 AX0
            (try go_wp2_with fail)
            refine hK.out _ _ (⟨cell_of_block AX1.out 1, cell_of_block AX1.out 2⟩) (fun hHeld => ?_)
            clear hK K hOld
            try simp only [Act.put, List.setIfInBounds_toArray, List.set_cons_zero, List.set_cons_succ]
            refine wpAnyH_ready (rs := [15]) (by kernel_rfl) (by simp) (AllReadyH.cons (o := { dst := some 119, op := Op.call { callee := Callee.value (Operand.func 15), args := #[Operand.tmp 112, Operand.tmp 114, Operand.tmp 116, Operand.tmp 117, Operand.tmp 118], argTypes := #[32, 3, 3, 9, 9] }, type := 3, pos := "law.go:73", after := #[{ on := 8, ground := Ground.data }, { on := 10, ground := Ground.data }, { on := 12, ground := Ground.data }, { on := 13, ground := Ground.data }, { on := 14, ground := Ground.data }, { on := 7, ground := Ground.chain }], guard := none }) rfl (fun K hK => ?_) AllReadyH.nil)
            have hOld := hide hHeld
            clear hHeld
            go_simp
            refine (rprog_any (HPO.out.nand (by omega)) HPO.out.blankOk xb xp td te _ DX1.out.ref).mono ?_
            rintro e v2 ⟨rfl, hn, ht⟩
            have DX2 := hide (DX1.out.refT hn ht)
            have SX2 := hide (SX1.out.rturn ht)
            have AX2 := hide (AX1.out.rturn ht)
            clear hn ht DX1 SX1 AX1
            (try go_wp2_with fail)
            refine hK.out _ _ (⟨cell_of_block AX2.out 1, cell_of_block AX2.out 2⟩) (fun hHeld => ?_)
            clear hK K hOld
            try simp only [Act.put, List.setIfInBounds_toArray, List.set_cons_zero, List.set_cons_succ]
            refine wpAnyH_take (i := 16) (oi := { dst := some 120, op := Op.binOp BinOp.eql 3 (Operand.tmp 111) (Operand.tmp 119) 3, type := 4, pos := "law.go:73", after := #[{ on := 7, ground := Ground.data }, { on := 15, ground := Ground.data }], guard := none }) (v := ?_) rfl (by kernel_rfl) (by kernel_rfl) (by kernel_rfl) (fun _ _ _ h => h) (Or.inl ⟨by kernel_rfl, ?_⟩) hHeld ?_
            rotate_left
            · (intro w hSw; (try dsimp only at hSw); go_simp); try with_reducible rfl
            try simp only [Act.put, List.setIfInBounds_toArray, List.set_cons_zero, List.set_cons_succ]
            refine wpAnyH_take (i := 17) (oi := { dst := some 15, op := Op.assign (Operand.tmp 120), type := 4, pos := "law.go:73", after := #[{ on := 16, ground := Ground.data }, { on := 15, ground := Ground.chain }, { on := 0, ground := Ground.phase }, { on := 1, ground := Ground.phase }, { on := 2, ground := Ground.phase }, { on := 3, ground := Ground.phase }, { on := 4, ground := Ground.phase }, { on := 5, ground := Ground.phase }, { on := 6, ground := Ground.phase }, { on := 7, ground := Ground.phase }, { on := 8, ground := Ground.phase }, { on := 9, ground := Ground.phase }, { on := 10, ground := Ground.phase }, { on := 11, ground := Ground.phase }, { on := 12, ground := Ground.phase }, { on := 13, ground := Ground.phase }, { on := 14, ground := Ground.phase }, { on := 15, ground := Ground.phase }, { on := 16, ground := Ground.phase }], guard := none }) (v := ?_) rfl (by kernel_rfl) (by kernel_rfl) (by kernel_rfl) (fun _ _ _ h => h) (Or.inl ⟨by kernel_rfl, ?_⟩) hHeld ?_
            rotate_left
            · (intro w hSw; (try dsimp only at hSw); go_simp); try with_reducible rfl
            try simp only [Act.put, List.setIfInBounds_toArray, List.set_cons_zero, List.set_cons_succ]
            refine wpAnyH_done (by kernel_rfl) ?_ _
            clear hHeld
            go_wp2_with fail
            go_meet
            exact ⟨by simp, _, DX2.out, HPO.out.prog xb xp td te, SX2.out⟩
        · clear ht8
          as_aux_lemma =>
            go_upto_region 18 with (fail)
            have DX0 := hide DU6.out.drew
            have SX0 := hide (show Side5 w6.drew sb b p s from SD6.out)
            have AX0 := hide (show Acts5 w6.drew xq ⟨xd, xb, xp, xx, xy⟩ from AC6.out)
            refine wp_region_held_drew (S := (fun W => W.cell? ⟨xq, 1, none⟩ = some (.int .i64 xb) ∧ W.cell? ⟨xq, 2, none⟩ = some (.int .i64 xp))) (by kernel_rfl) (⟨cell_of_block AX0.out 1, cell_of_block AX0.out 2⟩) (fun hHeld => ?_)
            generalize w6.drew = v0 at *
            refine wpAnyH_take (i := 0) (oi := { dst := some 123, op := Op.move (Operand.tmp 8), type := 28, pos := "law.go:75", after := #[], guard := none }) (v := ?_) rfl (by kernel_rfl) (by kernel_rfl) (by kernel_rfl) (fun _ _ _ h => h) (Or.inl ⟨by kernel_rfl, ?_⟩) hHeld ?_
            rotate_left
            · (intro w hSw; (try dsimp only at hSw); go_simp); try with_reducible rfl
            try simp only [Act.put, List.setIfInBounds_toArray, List.set_cons_zero, List.set_cons_succ]
            refine wpAnyH_take (i := 1) (oi := { dst := some 124, op := Op.fieldAddr 38 (Operand.tmp 12) 1, type := 0, pos := "law.go:75", after := #[], guard := none }) (v := ?_) rfl (by kernel_rfl) (by kernel_rfl) (by kernel_rfl) (fun _ _ _ h => h) (Or.inl ⟨by kernel_rfl, ?_⟩) hHeld ?_
            rotate_left
            · (intro w hSw; (try dsimp only at hSw); go_simp); try with_reducible rfl
            try simp only [Act.put, List.setIfInBounds_toArray, List.set_cons_zero, List.set_cons_succ]
            refine wpAnyH_take (i := 2) (oi := { dst := some 125, op := Op.load 3 (Operand.tmp 124), type := 3, pos := "law.go:75", after := #[{ on := 1, ground := Ground.data }], guard := none }) (v := ?_) rfl (by kernel_rfl) (by kernel_rfl) (by kernel_rfl) (fun _ _ _ h => h) (Or.inl ⟨by kernel_rfl, ?_⟩) hHeld ?_
            rotate_left
            · (intro w hSw; (try dsimp only at hSw); go_simp); try with_reducible rfl
            try simp only [Act.put, List.setIfInBounds_toArray, List.set_cons_zero, List.set_cons_succ]
            refine wpAnyH_take (i := 3) (oi := { dst := some 126, op := Op.fieldAddr 38 (Operand.tmp 12) 2, type := 0, pos := "law.go:75", after := #[], guard := none }) (v := ?_) rfl (by kernel_rfl) (by kernel_rfl) (by kernel_rfl) (fun _ _ _ h => h) (Or.inl ⟨by kernel_rfl, ?_⟩) hHeld ?_
            rotate_left
            · (intro w hSw; (try dsimp only at hSw); go_simp); try with_reducible rfl
            try simp only [Act.put, List.setIfInBounds_toArray, List.set_cons_zero, List.set_cons_succ]
            refine wpAnyH_take (i := 4) (oi := { dst := some 127, op := Op.load 3 (Operand.tmp 126), type := 3, pos := "law.go:75", after := #[{ on := 3, ground := Ground.data }], guard := none }) (v := ?_) rfl (by kernel_rfl) (by kernel_rfl) (by kernel_rfl) (fun _ _ _ h => h) (Or.inl ⟨by kernel_rfl, ?_⟩) hHeld ?_
            rotate_left
            · (intro w hSw; (try dsimp only at hSw); go_simp); try with_reducible rfl
            try simp only [Act.put, List.setIfInBounds_toArray, List.set_cons_zero, List.set_cons_succ]
            refine wpAnyH_take (i := 5) (oi := { dst := some 128, op := Op.move (Operand.tmp 13), type := 9, pos := "law.go:75", after := #[], guard := none }) (v := ?_) rfl (by kernel_rfl) (by kernel_rfl) (by kernel_rfl) (fun _ _ _ h => h) (Or.inl ⟨by kernel_rfl, ?_⟩) hHeld ?_
            rotate_left
            · (intro w hSw; (try dsimp only at hSw); go_simp); try with_reducible rfl
            try simp only [Act.put, List.setIfInBounds_toArray, List.set_cons_zero, List.set_cons_succ]
            refine wpAnyH_take (i := 6) (oi := { dst := some 129, op := Op.move (Operand.tmp 14), type := 9, pos := "law.go:75", after := #[], guard := none }) (v := ?_) rfl (by kernel_rfl) (by kernel_rfl) (by kernel_rfl) (fun _ _ _ h => h) (Or.inl ⟨by kernel_rfl, ?_⟩) hHeld ?_
            rotate_left
            · (intro w hSw; (try dsimp only at hSw); go_simp); try with_reducible rfl
            try simp only [Act.put, List.setIfInBounds_toArray, List.set_cons_zero, List.set_cons_succ]
            refine wpAnyH_take (i := 8) (oi := { dst := some 131, op := Op.move (Operand.tmp 10), type := 32, pos := "law.go:75", after := #[], guard := none }) (v := ?_) rfl (by kernel_rfl) (by kernel_rfl) (by kernel_rfl) (fun _ _ _ h => h) (Or.inl ⟨by kernel_rfl, ?_⟩) hHeld ?_
            rotate_left
            · (intro w hSw; (try dsimp only at hSw); go_simp); try with_reducible rfl
            try simp only [Act.put, List.setIfInBounds_toArray, List.set_cons_zero, List.set_cons_succ]
            refine wpAnyH_take (i := 9) (oi := { dst := some 132, op := Op.fieldAddr 38 (Operand.tmp 12) 1, type := 0, pos := "law.go:75", after := #[], guard := none }) (v := ?_) rfl (by kernel_rfl) (by kernel_rfl) (by kernel_rfl) (fun _ _ _ h => h) (Or.inl ⟨by kernel_rfl, ?_⟩) hHeld ?_
            rotate_left
            · (intro w hSw; (try dsimp only at hSw); go_simp); try with_reducible rfl
            try simp only [Act.put, List.setIfInBounds_toArray, List.set_cons_zero, List.set_cons_succ]
            refine wpAnyH_take (i := 10) (oi := { dst := some 133, op := Op.load 3 (Operand.tmp 132), type := 3, pos := "law.go:75", after := #[{ on := 9, ground := Ground.data }], guard := none }) (v := ?_) rfl (by kernel_rfl) (by kernel_rfl) (by kernel_rfl) (fun _ _ _ h => h) (Or.inl ⟨by kernel_rfl, ?_⟩) hHeld ?_
            rotate_left
            · (intro w hSw; (try dsimp only at hSw); go_simp); try with_reducible rfl
            try simp only [Act.put, List.setIfInBounds_toArray, List.set_cons_zero, List.set_cons_succ]
            refine wpAnyH_take (i := 11) (oi := { dst := some 134, op := Op.fieldAddr 38 (Operand.tmp 12) 2, type := 0, pos := "law.go:75", after := #[], guard := none }) (v := ?_) rfl (by kernel_rfl) (by kernel_rfl) (by kernel_rfl) (fun _ _ _ h => h) (Or.inl ⟨by kernel_rfl, ?_⟩) hHeld ?_
            rotate_left
            · (intro w hSw; (try dsimp only at hSw); go_simp); try with_reducible rfl
            try simp only [Act.put, List.setIfInBounds_toArray, List.set_cons_zero, List.set_cons_succ]
            refine wpAnyH_take (i := 12) (oi := { dst := some 135, op := Op.load 3 (Operand.tmp 134), type := 3, pos := "law.go:75", after := #[{ on := 11, ground := Ground.data }], guard := none }) (v := ?_) rfl (by kernel_rfl) (by kernel_rfl) (by kernel_rfl) (fun _ _ _ h => h) (Or.inl ⟨by kernel_rfl, ?_⟩) hHeld ?_
            rotate_left
            · (intro w hSw; (try dsimp only at hSw); go_simp); try with_reducible rfl
            try simp only [Act.put, List.setIfInBounds_toArray, List.set_cons_zero, List.set_cons_succ]
            refine wpAnyH_take (i := 13) (oi := { dst := some 136, op := Op.move (Operand.tmp 13), type := 9, pos := "law.go:75", after := #[], guard := none }) (v := ?_) rfl (by kernel_rfl) (by kernel_rfl) (by kernel_rfl) (fun _ _ _ h => h) (Or.inl ⟨by kernel_rfl, ?_⟩) hHeld ?_
            rotate_left
            · (intro w hSw; (try dsimp only at hSw); go_simp); try with_reducible rfl
            try simp only [Act.put, List.setIfInBounds_toArray, List.set_cons_zero, List.set_cons_succ]
            refine wpAnyH_take (i := 14) (oi := { dst := some 137, op := Op.move (Operand.tmp 14), type := 9, pos := "law.go:75", after := #[], guard := none }) (v := ?_) rfl (by kernel_rfl) (by kernel_rfl) (by kernel_rfl) (fun _ _ _ h => h) (Or.inl ⟨by kernel_rfl, ?_⟩) hHeld ?_
            rotate_left
            · (intro w hSw; (try dsimp only at hSw); go_simp); try with_reducible rfl
            try simp only [Act.put, List.setIfInBounds_toArray, List.set_cons_zero, List.set_cons_succ]
            refine wpAnyH_ready (rs := [7]) (by kernel_rfl) (by simp) (AllReadyH.cons (o := { dst := some 130, op := Op.call { callee := Callee.value (Operand.func 14), args := #[Operand.tmp 123, Operand.tmp 125, Operand.tmp 127, Operand.tmp 128, Operand.tmp 129], argTypes := #[28, 3, 3, 9, 9] }, type := 29, pos := "law.go:75", after := #[{ on := 0, ground := Ground.data }, { on := 2, ground := Ground.data }, { on := 4, ground := Ground.data }, { on := 5, ground := Ground.data }, { on := 6, ground := Ground.data }], guard := none }) rfl (fun K hK => ?_) AllReadyH.nil)
            have hOld := hide hHeld
            clear hHeld
            go_simp
            refine (program_any P Q B2z G S (HPO.out.nand (by omega)) xb xp ya yb _ DX0.out.nand).mono ?_
            rintro e v1 ⟨rfl, hn, ht⟩
            have DX1 := hide (DX0.out.nandT hn ht)
            have SX1 := hide (SX0.out.turn ht)
            have AX1 := hide (AX0.out.turn ht)
            clear hn ht DX0 SX0 AX0
            (try go_wp2_with fail)
            refine hK.out _ _ (⟨cell_of_block AX1.out 1, cell_of_block AX1.out 2⟩) (fun hHeld => ?_)
            clear hK K hOld
            try simp only [Act.put, List.setIfInBounds_toArray, List.set_cons_zero, List.set_cons_succ]
            refine wpAnyH_ready (rs := [15]) (by kernel_rfl) (by simp) (AllReadyH.cons (o := { dst := some 138, op := Op.call { callee := Callee.value (Operand.func 15), args := #[Operand.tmp 131, Operand.tmp 133, Operand.tmp 135, Operand.tmp 136, Operand.tmp 137], argTypes := #[32, 3, 3, 9, 9] }, type := 3, pos := "law.go:75", after := #[{ on := 8, ground := Ground.data }, { on := 10, ground := Ground.data }, { on := 12, ground := Ground.data }, { on := 13, ground := Ground.data }, { on := 14, ground := Ground.data }, { on := 7, ground := Ground.chain }], guard := none }) rfl (fun K hK => ?_) AllReadyH.nil)
            have hOld := hide hHeld
            clear hHeld
            go_simp
            refine (rprog_any (HPO.out.nand (by omega)) HPO.out.blankOk xb xp ya yb _ DX1.out.ref).mono ?_
            rintro e v2 ⟨rfl, hn, ht⟩
            have DX2 := hide (DX1.out.refT hn ht)
            have SX2 := hide (SX1.out.rturn ht)
            have AX2 := hide (AX1.out.rturn ht)
            clear hn ht DX1 SX1 AX1
            (try go_wp2_with fail)
            refine hK.out _ _ (⟨cell_of_block AX2.out 1, cell_of_block AX2.out 2⟩) (fun hHeld => ?_)
            clear hK K hOld
            try simp only [Act.put, List.setIfInBounds_toArray, List.set_cons_zero, List.set_cons_succ]
            refine wpAnyH_take (i := 16) (oi := { dst := some 139, op := Op.binOp BinOp.eql 3 (Operand.tmp 130) (Operand.tmp 138) 3, type := 4, pos := "law.go:75", after := #[{ on := 7, ground := Ground.data }, { on := 15, ground := Ground.data }], guard := none }) (v := ?_) rfl (by kernel_rfl) (by kernel_rfl) (by kernel_rfl) (fun _ _ _ h => h) (Or.inl ⟨by kernel_rfl, ?_⟩) hHeld ?_
            rotate_left
            · (intro w hSw; (try dsimp only at hSw); go_simp); try with_reducible rfl
            try simp only [Act.put, List.setIfInBounds_toArray, List.set_cons_zero, List.set_cons_succ]
            refine wpAnyH_take (i := 17) (oi := { dst := some 15, op := Op.assign (Operand.tmp 139), type := 4, pos := "law.go:75", after := #[{ on := 16, ground := Ground.data }, { on := 15, ground := Ground.chain }, { on := 0, ground := Ground.phase }, { on := 1, ground := Ground.phase }, { on := 2, ground := Ground.phase }, { on := 3, ground := Ground.phase }, { on := 4, ground := Ground.phase }, { on := 5, ground := Ground.phase }, { on := 6, ground := Ground.phase }, { on := 7, ground := Ground.phase }, { on := 8, ground := Ground.phase }, { on := 9, ground := Ground.phase }, { on := 10, ground := Ground.phase }, { on := 11, ground := Ground.phase }, { on := 12, ground := Ground.phase }, { on := 13, ground := Ground.phase }, { on := 14, ground := Ground.phase }, { on := 15, ground := Ground.phase }, { on := 16, ground := Ground.phase }], guard := none }) (v := ?_) rfl (by kernel_rfl) (by kernel_rfl) (by kernel_rfl) (fun _ _ _ h => h) (Or.inl ⟨by kernel_rfl, ?_⟩) hHeld ?_
            rotate_left
            · (intro w hSw; (try dsimp only at hSw); go_simp); try with_reducible rfl
            try simp only [Act.put, List.setIfInBounds_toArray, List.set_cons_zero, List.set_cons_succ]
            refine wpAnyH_done (by kernel_rfl) ?_ _
            clear hHeld
            go_wp2_with fail
            go_meet
            exact ⟨by simp, _, DX2.out, HPO.out.prog xb xp ya yb, SX2.out⟩
        · clear ht8
          as_aux_lemma =>
            go_upto_region 20 with (fail)
            have DX0 := hide DU6.out.drew
            have SX0 := hide (show Side5 w6.drew sb b p s from SD6.out)
            have AX0 := hide (show Acts5 w6.drew xq ⟨xd, xb, xp, xx, xy⟩ from AC6.out)
            refine wp_region_held_drew (S := (fun W => W.cell? ⟨xq, 1, none⟩ = some (.int .i64 xb) ∧ W.cell? ⟨xq, 2, none⟩ = some (.int .i64 xp))) (by kernel_rfl) (⟨cell_of_block AX0.out 1, cell_of_block AX0.out 2⟩) (fun hHeld => ?_)
            generalize w6.drew = v0 at *
            refine wpAnyH_take (i := 0) (oi := { dst := some 142, op := Op.move (Operand.tmp 8), type := 28, pos := "law.go:77", after := #[], guard := none }) (v := ?_) rfl (by kernel_rfl) (by kernel_rfl) (by kernel_rfl) (fun _ _ _ h => h) (Or.inl ⟨by kernel_rfl, ?_⟩) hHeld ?_
            rotate_left
            · (intro w hSw; (try dsimp only at hSw); go_simp); try with_reducible rfl
            try simp only [Act.put, List.setIfInBounds_toArray, List.set_cons_zero, List.set_cons_succ]
            refine wpAnyH_take (i := 1) (oi := { dst := some 143, op := Op.fieldAddr 38 (Operand.tmp 12) 1, type := 0, pos := "law.go:77", after := #[], guard := none }) (v := ?_) rfl (by kernel_rfl) (by kernel_rfl) (by kernel_rfl) (fun _ _ _ h => h) (Or.inl ⟨by kernel_rfl, ?_⟩) hHeld ?_
            rotate_left
            · (intro w hSw; (try dsimp only at hSw); go_simp); try with_reducible rfl
            try simp only [Act.put, List.setIfInBounds_toArray, List.set_cons_zero, List.set_cons_succ]
            refine wpAnyH_take (i := 2) (oi := { dst := some 144, op := Op.load 3 (Operand.tmp 143), type := 3, pos := "law.go:77", after := #[{ on := 1, ground := Ground.data }], guard := none }) (v := ?_) rfl (by kernel_rfl) (by kernel_rfl) (by kernel_rfl) (fun _ _ _ h => h) (Or.inl ⟨by kernel_rfl, ?_⟩) hHeld ?_
            rotate_left
            · (intro w hSw; (try dsimp only at hSw); go_simp); try with_reducible rfl
            try simp only [Act.put, List.setIfInBounds_toArray, List.set_cons_zero, List.set_cons_succ]
            refine wpAnyH_take (i := 4) (oi := { dst := some 146, op := Op.move (Operand.tmp 10), type := 32, pos := "law.go:77", after := #[], guard := none }) (v := ?_) rfl (by kernel_rfl) (by kernel_rfl) (by kernel_rfl) (fun _ _ _ h => h) (Or.inl ⟨by kernel_rfl, ?_⟩) hHeld ?_
            rotate_left
            · (intro w hSw; (try dsimp only at hSw); go_simp); try with_reducible rfl
            try simp only [Act.put, List.setIfInBounds_toArray, List.set_cons_zero, List.set_cons_succ]
            refine wpAnyH_take (i := 5) (oi := { dst := some 147, op := Op.fieldAddr 38 (Operand.tmp 12) 1, type := 0, pos := "law.go:77", after := #[], guard := none }) (v := ?_) rfl (by kernel_rfl) (by kernel_rfl) (by kernel_rfl) (fun _ _ _ h => h) (Or.inl ⟨by kernel_rfl, ?_⟩) hHeld ?_
            rotate_left
            · (intro w hSw; (try dsimp only at hSw); go_simp); try with_reducible rfl
            try simp only [Act.put, List.setIfInBounds_toArray, List.set_cons_zero, List.set_cons_succ]
            refine wpAnyH_take (i := 6) (oi := { dst := some 148, op := Op.load 3 (Operand.tmp 147), type := 3, pos := "law.go:77", after := #[{ on := 5, ground := Ground.data }], guard := none }) (v := ?_) rfl (by kernel_rfl) (by kernel_rfl) (by kernel_rfl) (fun _ _ _ h => h) (Or.inl ⟨by kernel_rfl, ?_⟩) hHeld ?_
            rotate_left
            · (intro w hSw; (try dsimp only at hSw); go_simp); try with_reducible rfl
            try simp only [Act.put, List.setIfInBounds_toArray, List.set_cons_zero, List.set_cons_succ]
            refine wpAnyH_ready (rs := [3]) (by kernel_rfl) (by simp) (AllReadyH.cons (o := { dst := some 145, op := Op.call { callee := Callee.value (Operand.func 16), args := #[Operand.tmp 142, Operand.tmp 144], argTypes := #[28, 3] }, type := 29, pos := "law.go:77", after := #[{ on := 0, ground := Ground.data }, { on := 2, ground := Ground.data }], guard := none }) rfl (fun K hK => ?_) AllReadyH.nil)
            have hOld := hide hHeld
            clear hHeld
            go_simp
            refine (erase_any P Q B2z G S (HPO.out.nand (by omega)) (HPO.out.fewE (by omega)) xb _ DX0.out.nand).mono ?_
            rintro e v1 ⟨rfl, hn, ht⟩
            have DX1 := hide (DX0.out.nandT hn ht)
            have SX1 := hide (SX0.out.turn ht)
            have AX1 := hide (AX0.out.turn ht)
            clear hn ht DX0 SX0 AX0
            (try go_wp2_with fail)
            refine hK.out _ _ (⟨cell_of_block AX1.out 1, cell_of_block AX1.out 2⟩) (fun hHeld => ?_)
            clear hK K hOld
            try simp only [Act.put, List.setIfInBounds_toArray, List.set_cons_zero, List.set_cons_succ]
            refine wpAnyH_ready (rs := [7]) (by kernel_rfl) (by simp) (AllReadyH.cons (o := { dst := some 149, op := Op.call { callee := Callee.value (Operand.func 17), args := #[Operand.tmp 146, Operand.tmp 148], argTypes := #[32, 3] }, type := 3, pos := "law.go:77", after := #[{ on := 4, ground := Ground.data }, { on := 6, ground := Ground.data }, { on := 3, ground := Ground.chain }], guard := none }) rfl (fun K hK => ?_) AllReadyH.nil)
            have hOld := hide hHeld
            clear hHeld
            go_simp
            refine (rerase_any (HPO.out.nand (by omega)) HPO.out.sized HPO.out.blank1 HPO.out.blankOk (HPO.out.fewE (by omega)) xb _ DX1.out.ref).mono ?_
            rintro e v2 ⟨rfl, hn, ht⟩
            have DX2 := hide (DX1.out.refT hn ht)
            have SX2 := hide (SX1.out.rturn ht)
            have AX2 := hide (AX1.out.rturn ht)
            clear hn ht DX1 SX1 AX1
            (try go_wp2_with fail)
            refine hK.out _ _ (⟨cell_of_block AX2.out 1, cell_of_block AX2.out 2⟩) (fun hHeld => ?_)
            clear hK K hOld
            try simp only [Act.put, List.setIfInBounds_toArray, List.set_cons_zero, List.set_cons_succ]
            refine wpAnyH_take (i := 8) (oi := { dst := some 150, op := Op.binOp BinOp.eql 3 (Operand.tmp 145) (Operand.tmp 149) 3, type := 4, pos := "law.go:77", after := #[{ on := 3, ground := Ground.data }, { on := 7, ground := Ground.data }], guard := none }) (v := ?_) rfl (by kernel_rfl) (by kernel_rfl) (by kernel_rfl) (fun _ _ _ h => h) (Or.inl ⟨by kernel_rfl, ?_⟩) hHeld ?_
            rotate_left
            · (intro w hSw; (try dsimp only at hSw); go_simp); try with_reducible rfl
            try simp only [Act.put, List.setIfInBounds_toArray, List.set_cons_zero, List.set_cons_succ]
            refine wpAnyH_take (i := 9) (oi := { dst := some 15, op := Op.assign (Operand.tmp 150), type := 4, pos := "law.go:77", after := #[{ on := 8, ground := Ground.data }, { on := 7, ground := Ground.chain }, { on := 0, ground := Ground.phase }, { on := 1, ground := Ground.phase }, { on := 2, ground := Ground.phase }, { on := 3, ground := Ground.phase }, { on := 4, ground := Ground.phase }, { on := 5, ground := Ground.phase }, { on := 6, ground := Ground.phase }, { on := 7, ground := Ground.phase }, { on := 8, ground := Ground.phase }], guard := none }) (v := ?_) rfl (by kernel_rfl) (by kernel_rfl) (by kernel_rfl) (fun _ _ _ h => h) (Or.inl ⟨by kernel_rfl, ?_⟩) hHeld ?_
            rotate_left
            · (intro w hSw; (try dsimp only at hSw); go_simp); try with_reducible rfl
            try simp only [Act.put, List.setIfInBounds_toArray, List.set_cons_zero, List.set_cons_succ]
            refine wpAnyH_done (by kernel_rfl) ?_ _
            clear hHeld
            go_wp2_with fail
            go_meet
            exact ⟨by simp, _, DX2.out, HPO.out.erase xb, SX2.out⟩
        · clear ht8
          as_aux_lemma =>
            have e1 := cell_of_block AC6.out 1
            go_wp2_with fail
            refine (wreck_any P Q B2z G S xb w6 DU6.out.nand).mono ?_
            rintro e w7 ⟨rfl, hn, ht⟩
            have DU7 := hide (DU6.out.nandT hn ht)
            have SD7 := hide (SD6.out.turn ht)
            have AC7 := hide (AC6.out.turn ht)
            clear hn ht DU6 SD6 AC6 e1
            have e1 := cell_of_block AC7.out 1
            have c0 : w7.cell? ⟨c, 0, none⟩ = some (.int .i64 (S.L.length : Int)) := DU7.out.ref.cell 0
            by_cases hb : 0 ≤ xb ∧ xb < (S.L.length : Int)
            · obtain ⟨kx, rfl⟩ : ∃ kx : Nat, (kx : Int) = xb := ⟨xb.toNat, by omega⟩
              have hkx : kx < S.L.length := by omega
              have hwr : wreckS S (kx : Int) = S.put kx { S.blk kx with weak := true } := by unfold wreckS; rw [if_pos hb, Int.toNat_natCast]
              rw [hwr] at DU7
              have HPW := hide (show PlayOk (S.put kx { S.blk kx with weak := true }) (j + 1) by
                have h1 := (HPO.out.wreck (kx : Int)).mono (Nat.le_succ j)
                rw [hwr] at h1
                exact h1)
              clear hwr
              go_upto_region 23 with (fail)
              go_quiet (fail)
              generalize hv : w7.drewN _ = w8
              have DU8 := hide (show Duo w w8 P Q B2z G c pq n e5 a5 f5 m5 cp G5 B3z (S.put kx { S.blk kx with weak := true }) S from hv ▸ DU7.out.drewN _)
              have SD8 := hide (show Side5 w8 sb b p s from hv ▸ SD7.out)
              have AC8 := hide (show Acts5 w8 xq ⟨xd, kx, xp, xx, xy⟩ from hv ▸ AC7.out)
              clear hv e1 c0 DU7 SD7 AC7
              have e1 := cell_of_block AC8.out 1
              have c6 : w8.cell? ⟨c, 6, none⟩ = some (.slice (some ⟨a5, 0, none⟩) S.L.length S.L.length) := DU8.out.ref.cell 6
              obtain ⟨da, fa⟩ := DU8.out.ref.at_weak kx hkx
              have HR9 := hide (DU8.out.ref.drew.setWeak kx hkx)
              have HT9 := hide (DU8.out.ref.drew.turnWeak kx (.bool true))
              go_upto_region 24 with (fail)
              go_still_tail 7, (by kernel_rfl)
              change wpList _ _ _ _ _ w8.drew
              go_wp2_with fail
              go_meet
              exact ⟨rfl, _, DU8.out.drew.refT HR9.out HT9.out, HPW.out, (show Side5 w8.drew sb b p s from SD8.out).rturn HT9.out⟩
            · have hwr : wreckS S xb = S := by unfold wreckS; rw [if_neg hb]
              rw [hwr] at DU7
              clear hwr
              by_cases hb1 : 0 ≤ xb
              · have hb2 : ¬ xb < (S.L.length : Int) := by omega
                clear hb
                go_upto_region 23 with (fail)
                go_quiet (fail)
                generalize hv : w7.drewN _ = w8
                have DU8 := hide (show Duo w w8 P Q B2z G c pq n e5 a5 f5 m5 cp G5 B3z S S from hv ▸ DU7.out.drewN _)
                have SD8 := hide (show Side5 w8 sb b p s from hv ▸ SD7.out)
                clear hv e1 c0 DU7 SD7 AC7
                go_wp2_with fail
                go_meet
                exact ⟨rfl, _, DU8.out, HPO.out.mono (Nat.le_succ j), SD8.out⟩
              · clear hb
                have hb3 : (0 ≤ xb) = False := by simp; omega
                have hb4 : decide (0 ≤ xb) = false := by simp; omega
                go_upto_region 23 with (fail)
                go_quiet (fail)
                generalize hv : w7.drewN _ = w8
                have DU8 := hide (show Duo w w8 P Q B2z G c pq n e5 a5 f5 m5 cp G5 B3z S S from hv ▸ DU7.out.drewN _)
                have SD8 := hide (show Side5 w8 sb b p s from hv ▸ SD7.out)
                clear hv e1 c0 DU7 SD7 AC7
                go_wp2_with fail
                go_meet
                exact ⟨rfl, _, DU8.out, HPO.out.mono (Nat.le_succ j), SD8.out⟩
        · clear ht8
          as_aux_lemma =>
            have e2 := cell_of_block AC6.out 2
            obtain ⟨pz, hpz⟩ : ∃ pz, pz = max 0 xp := ⟨_, rfl⟩
            have hpz1 : max xp 0 = pz := by omega
            have hpz2 : (if 0 > xp then 0 else xp) = pz := by rw [hpz]; split <;> omega
            have hpz3 : (if xp < 0 then 0 else xp) = pz := by rw [hpz]; split <;> omega
            have hpz0 : 0 ≤ pz ∧ pz ≤ 9223372036854775807 := by omega
            have HPZ := hide hpz0
            have HFU := hide (show Calls Try.prog 19 #[.pointer (some ⟨P, 0, none⟩), .int .i64 xp, .string ya] w6 (NandIs P Q B2z G { S with fuse := pz, torn := ya } (.tuple #[]) w6) by
              rw [hpz]
              exact fuse_any P Q B2z G S xp ya w6 DU6.out.nand)
            clear hpz hpz0
            go_wp2_with fail
            refine HFU.out.mono ?_
            rintro e w7 ⟨rfl, hn, ht⟩
            have DU7 := hide (DU6.out.nandT hn ht)
            have SD7 := hide (SD6.out.turn ht)
            have AC7 := hide (AC6.out.turn ht)
            clear hn ht DU6 SD6 AC6 e2 HFU
            have e2 := cell_of_block AC7.out 2
            have c9 : w7.cell? ⟨c, 9, none⟩ = some (.int .i64 S.fuse) := DU7.out.ref.cell 9
            have c10 : w7.cell? ⟨c, 10, none⟩ = some (.string S.torn) := DU7.out.ref.cell 10
            have f9 := DU7.out.ref.free 9
            have f10 := DU7.out.ref.free 10
            have HR9 := hide (DU7.out.ref.setFuse pz ya)
            have HT9 := hide ((DU7.out.ref.turnHead 9 (.int .i64 pz)).trans ((DU7.out.ref.setHead 9 (.int .i64 pz) { S with fuse := pz } rfl rfl rfl).turnHead 10 (.string ya)))
            go_wp2_with fail
            go_meet
            exact ⟨rfl, _, DU7.out.refT HR9.out HT9.out, (HPO.out.setFuse pz HPZ.out ya (by have := HMA.out; omega)).mono (Nat.le_succ j), SD7.out.rturn HT9.out⟩
        · clear ht8
          as_aux_lemma =>
            go_wp2_with fail
            refine (on_any P Q B2z G S w6 DU6.out.nand).mono ?_
            rintro e w7 ⟨rfl, hn, ht⟩
            have DU7 := hide (DU6.out.nandT hn ht)
            have SD7 := hide (SD6.out.turn ht)
            clear hn ht DU6 SD6 AC6
            go_wp2_with fail
            refine (ron_any w7 DU7.out.ref).mono ?_
            rintro e w8 ⟨rfl, hn, ht⟩
            have DU8 := hide (DU7.out.refT hn ht)
            have SD8 := hide (SD7.out.rturn ht)
            clear hn ht DU7 SD7
            go_wp2_with fail
            go_meet
            exact ⟨rfl, _, DU8.out, HPO.out.on.mono (Nat.le_succ j), SD8.out⟩
        · clear ht8
          as_aux_lemma =>
            have e1 := cell_of_block AC6.out 1
            have e2 := cell_of_block AC6.out 2
            have HRA := hide (read_any P Q B2z G S xb xp w6 DU6.out.nand)
            have HRR := hide (fun W hW => rread_any (c := c) (pq := pq) (n := n) (e := e5) (a := a5) (f := f5) (m := m5) (cp := cp) (B := B3z) (G := G5) (S := S) HPO.out.size HPO.out.sized xb xp W hW)
            generalize (readP S xb xp).1 = r1 at *
            generalize (readP S xb xp).2 = r2 at *
            generalize askE S xb xp = r3 at *
            go_wp2_with fail
            refine HRA.out.mono ?_
            rintro e w7 ⟨rfl, hb⟩
            have DU7 := hide (DU6.out.below hb)
            have SD7 := hide (SD6.out.below hb)
            have AC7 := hide (AC6.out.below hb)
            clear hb DU6 SD6 AC6 e1 e2 HRA
            have e1 := cell_of_block AC7.out 1
            have e2 := cell_of_block AC7.out 2
            go_wp2_with fail
            refine (HRR.out _ DU7.out.ref).mono ?_
            rintro e w8 ⟨rfl, hb⟩
            have DU8 := hide (DU7.out.below hb)
            have SD8 := hide (SD7.out.below hb)
            clear hb DU7 SD7 AC7 e1 e2 HRR
            go_wp2_with fail
            go_meet
            exact ⟨rfl, _, DU8.out, HPO.out.mono (Nat.le_succ j), SD8.out⟩
      case rest =>
        obtain ⟨rfl, S2, hdu, hpo, hsd⟩ := hcut
        have DUC := hide hdu
        have HP2 := hide hpo
        have SDC := hide hsd
        clear hdu hpo hsd DU6 SD6 AC6 HPO HMA HMB
        go_wp2_with fail
        refine (same_any HP2.out.size HP2.out.sized _ DUC.out.nand DUC.out.ref).mono ?_
        rintro e v1 ⟨rfl, hb⟩
        have DU1 := hide (DUC.out.below hb)
        have SD1 := hide (SDC.out.below hb)
        clear hb DUC SDC
        go_wp2_with fail
        go_roundw
        case rel => exact ⟨j + 1, S2, by omega, by go_num, DU1.out, HP2.out, SD1.out⟩
        case measure => simp [intOf]; omega
    · obtain rfl : j = m := by omega
      go_wp2_with fail
      go_ret
      exact ⟨rfl, DUJ.out.low⟩
end Go.Proofs.Ythippbckjldijaa
