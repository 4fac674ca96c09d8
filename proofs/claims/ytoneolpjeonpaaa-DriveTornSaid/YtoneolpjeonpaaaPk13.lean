/-
  Lemmas and contracts of this project's own, put together: Drive3, Drive4, Drive5, Drive6, Drive7, Drive8, Drive9, Drive10, Drive11, Drive12, Drive13, Drive14, Drive15.
-/
import Derived.Test.YtoneolpjeonpaaaPk12
namespace Go.Proofs.Ytoneolpjeonpaaa
set_option linter.unusedSimpArgs false
set_option linter.unusedVariables false
open Go.RowKit Go.WideShapes Go.ChangeShapes Go.ChangeAt Go.Deep

section
variable {w w' : World} {d b p q B : Nat} {G : Nat → Nat} {S S' : ChipM} {K : List KnM}
/-- an error that tells nothing of a block -/
theorem learn_none (v : Value) (i e : Int) (h9 : ¬ e = 9) (h10 : ¬ e = 10) (w : World) :
    Calls Try.prog 25 #[v, .int .i64 i, .int .i64 e] w (DNilIs w) := by
  have hb9 : (e == 9) = false := by simpa using h9
  have hb10 : (e == 10) = false := by simpa using h10
  go_enter Try.func25, Try.ntmps25
  go_wp2_with fail
  go_end0
  exact ⟨rfl, rfl⟩
def DimsSame (S S' : ChipM) : Prop := S'.L.length = S.L.length ∧ S'.pgs = S.pgs ∧ S'.size = S.size
/-- below B0 nothing has turned; of the rest the chip and what a drive knows alone -/
def TurnD (B0 : Nat) (w w' : World) : Prop := Below B0 w w' ∧ KeepsT [83, 87, 78, 74] w w'
theorem TurnD.refl (B0 : Nat) (w : World) : TurnD B0 w w := ⟨Below.refl _ _, KeepsT.refl _ _⟩
theorem TurnD.trans {B0 : Nat} {a b c : World} (h : TurnD B0 a b) (k : TurnD B0 b c) : TurnD B0 a c := ⟨h.1.trans k.1, h.2.trans k.2⟩
theorem TurnD.of_below {B0 : Nat} {w w' : World} (h : Below w.heap.size w w') (hB : B0 ≤ w.heap.size) : TurnD B0 w w' := ⟨h.mono hB, KeepsT.of_below h⟩
theorem TurnD.of_turn {B0 B : Nat} {w w' : World} (h : Turn B w w') (hB : B0 ≤ B) : TurnD B0 w w' := ⟨h.1.mono hB, h.2.mono (by decide)⟩
theorem TurnD.know {B0 : Nat} {a w : World} (h : TurnD B0 a w) {cs : Array Value} {b : Nat} {fz : Nat × Nat} (hb : w.heap[b]? = some (.cells cs 74 fz)) (hB : B0 ≤ b) (j : Nat) (v : Value) : TurnD B0 a (w.setCell ⟨b, j, none⟩ v) :=
  ⟨h.1.setCell (p := ⟨b, j, none⟩) hB v, h.2.trans (KeepsT.setCell hb (by decide) j v)⟩
theorem TurnD.keep {B0 : Nat} {w w' : World} (h : TurnD B0 w w') {k : Nat} {c : Array Value} {t : TypeId} {fz : Nat × Nat} (hk : w.heap[k]? = some (.cells c t fz)) (ht : t ∉ [83, 87, 78, 74]) : w'.heap[k]? = some (.cells c t fz) := h.2.cells hk ht
theorem TurnD.drew {B0 : Nat} {a b : World} (h : TurnD B0 a b) : TurnD B0 a b.drew := ⟨h.1.drew, h.2⟩
theorem DriveAt.base {w : World} {d b p q B : Nat} {G : Nat → Nat} {S : ChipM} {K : List KnM} (h : DriveAt w d b p q B G S K) : ∃ cs : Array Value, w.heap[b]? = some (.cells cs 74 (0, 0)) := by
  obtain ⟨cs, c1, -⟩ := h.row.ex
  exact ⟨cs, c1⟩
def DriveIs (d b p q B B0 : Nat) (G : Nat → Nat) (S' : ChipM) (K' : List KnM) (v : Value) (w : World) (e : Ending) (w' : World) : Prop := e = .returned v ∧ DriveAt w' d b p q B G S' K' ∧ TurnD B0 w w'
set_option maxRecDepth 100000 in
set_option maxHeartbeats 400000 in
theorem derase_ok (B0 k : Nat) (hk : k < K.length) (hB0 : B0 ≤ B ∧ B0 ≤ b) (hbad : (K.getD k kn0).bad = false) (hS : NandOk S) (hF : FewE S) (hE : (eraseT S (k : Int)).2 = 0) (hD : DimsSame S (eraseT S (k : Int)).1) (w : World) (h : DriveAt w d b p q B G S K) :
    Calls Try.prog 10 #[.pointer (some ⟨d, 0, none⟩), .int .i64 (k : Int)] w (DriveIs d b p q B B0 G (eraseT S (k : Int)).1 (K.set k ⟨false, 0⟩) (.int .i64 0) w) := by
  have HM := hide (may_any (k : Int) w h)
  rw [show mayE K (k : Int) = 0 by unfold mayE; rw [if_neg (by omega), Int.toNat_natCast, if_neg (by rw [hbad]; decide)]] at HM
  have HC := hide (erase_any p q B G S hS hF (k : Int) w h.chip)
  rw [hE] at HC
  have HD := hide hD
  have H := hide h
  have HBB := hide hB0
  have c0 := h.cell0
  have hf := h.few
  have HBAD := hide hbad
  clear h hS hF hE hD hB0 hbad
  generalize (eraseT S (k : Int)).1 = S2 at *
  go_enter Try.func10, Try.ntmps10
  go_wp2_with fail
  refine HM.out.mono ?_
  rintro e w1 ⟨rfl, rfl⟩
  go_wp2_with fail
  refine HC.out.mono ?_
  rintro e w2 ⟨rfl, hn, ht⟩
  have D2 := hide (H.out.turn hn ht HD.out.1 HD.out.2.1 HD.out.2.2)
  have B2 := hide (TurnD.of_turn ht HBB.out.1)
  clear hn ht HC HM
  go_wp2_with fail
  refine (learn_none _ (k : Int) 0 (by decide) (by decide) _).mono ?_
  rintro e w3 ⟨rfl, rfl⟩
  have c := D2.out.cellRow
  obtain ⟨a0, a1, f0, f1⟩ := D2.out.at k hk
  have D3 := hide (D2.out.know k hk 1 (by decide) (.int .i64 0) ⟨false, 0⟩ (by unfold knC; rw [HBAD.out]; rfl))
  obtain ⟨csr, hcsr⟩ := D2.out.base
  have B3 := hide (B2.out.know hcsr HBB.out.2 (k * 2 + 1) (.int .i64 0))
  clear hcsr
  clear a0 f0 c0
  generalize (K.getD k kn0).next = xn at *
  go_wp2_with fail
  go_ret
  exact ⟨rfl, D3.out, B3.out⟩
set_option maxRecDepth 100000 in
set_option maxHeartbeats 400000 in
theorem dprog_order (B0 i : Nat) (hi : i < K.length) (hbad : (K.getD i kn0).bad = false) (hx : nextK S K i = -1) (k l s n m : Int) (hT : TagOk k l n m) (t : ByteArray) (ht : t.size = S.size) (hsz : S.size ≤ 1024) (w : World) (h : DriveAt w d b p q B G S K) :
    Calls Try.prog 8 #[.pointer (some ⟨d, 0, none⟩), .int .i64 (i : Int), .agg #[.int .u8 k, .int .i64 l, .int .u64 s, .int .i64 n, .int .i64 m], .string t] w fun e w' => e = .returned (.tuple #[.int .i64 0, .int .i64 11]) ∧ Below w.heap.size w w' := by
  have hal := (Below.refl w.heap.size w).alloc (Nat.le_refl _) (.cells #[.int .u8 k, .int .i64 l, .int .u64 s, .int .i64 n, .int .i64 m] 31)
  have X := hide (heap_new w (.cells #[.int .u8 k, .int .i64 l, .int .u64 s, .int .i64 n, .int .i64 m] 31))
  have HB := hide hal
  have H := hide (h.below hal)
  have HM := hide (may_any (i : Int) _ H.out)
  rw [show mayE K (i : Int) = 0 by unfold mayE; rw [if_neg (by omega), Int.toNat_natCast, if_neg (by rw [hbad]; decide)]] at HM
  have HX := hide (fun W hW => dnext_yes (d := d) (b := b) (p := p) (q := q) (B := B) (G := G) (S := S) (K := K) i hi W hW)
  rw [hx] at HX
  have HR := hide (fun W => tright_yes k l s n m hT W)
  have HTS := hide ht
  have hf := h.few
  clear h hal hbad hx ht
  go_enter Try.func8, Try.ntmps8
  go_upto_region 1 with (fail)
  generalize w.alloc (.cells #[.int .u8 k, .int .i64 l, .int .u64 s, .int .i64 n, .int .i64 m] 31) = w1 at *
  generalize hq : w.heap.size = q1 at *
  go_wp2_with fail
  refine HM.out.mono ?_
  rintro e w2 ⟨rfl, rfl⟩
  have e0 := cell_of_block X.out 0
  have e1 := cell_of_block X.out 1
  have e2 := cell_of_block X.out 2
  have e3 := cell_of_block X.out 3
  have e4 := cell_of_block X.out 4
  have cs := H.out.cellSize
  have hts : (t.size : Int) = (S.size : Int) := by rw [HTS.out]
  go_wp2_with fail
  refine (HR.out _).mono ?_
  rintro e w3 ⟨rfl, hb⟩
  have H3 := hide (H.out.below hb)
  have cs3 := H3.out.cellSize
  have B3 := hide (HB.out.trans (hb.mono (Nat.le_of_lt (Array.getElem?_eq_some_iff.mp X.out).1)))
  clear H HR HM X HB e0 e1 e2 e3 e4 cs
  go_wp2_with fail
  refine (HX.out _ H3.out).mono ?_
  rintro e w4 ⟨rfl, rfl⟩
  go_wp2_with fail
  go_ret2
  exact ⟨rfl, hq ▸ B3.out⟩
end
end Go.Proofs.Ytoneolpjeonpaaa

namespace Go.Proofs.Ytoneolpjeonpaaa
set_option linter.unusedSimpArgs false
set_option linter.unusedVariables false
open Go.RowKit Go.WideShapes Go.ChangeShapes Go.ChangeAt Go.Deep
section
variable {w w' : World} {d b p q B : Nat} {G : Nat → Nat} {S S' : ChipM} {K : List KnM}
set_option maxRecDepth 100000 in
set_option maxHeartbeats 400000 in
/-- Program that goes well -/
theorem dprog_ok (B0 i j : Nat) (hi : i < K.length) (hB0 : B0 ≤ B ∧ B0 ≤ b) (hbad : (K.getD i kn0).bad = false) (hx : nextK S K i = (j : Int)) (hj : j < S.pgs) (k l s n m : Int) (hT : TagOk k l n m) (s0 : 0 ≤ s) (s1 : s ≤ 18446744073709551615) (td : List UInt8) (ht : td.length = S.size) (hsz : S.size ≤ 1024) (hS : NandOk S)
    (hE : (progT S (i : Int) (j : Int) (bs td) (bs (frameL k l s n m td))).2 = 0) (hD : DimsSame S (progT S (i : Int) (j : Int) (bs td) (bs (frameL k l s n m td))).1) (w : World) (h : DriveAt w d b p q B G S K) :
    Calls Try.prog 8 #[.pointer (some ⟨d, 0, none⟩), .int .i64 (i : Int), .agg #[.int .u8 k, .int .i64 l, .int .u64 s, .int .i64 n, .int .i64 m], .string (bs td)] w (DriveIs d b p q B B0 G (progT S (i : Int) (j : Int) (bs td) (bs (frameL k l s n m td))).1 (K.set i ⟨false, (j : Int) + 1⟩) (.tuple #[.int .i64 (j : Int), .int .i64 0]) w) := by
  have hal := (Below.refl w.heap.size w).alloc (Nat.le_refl _) (.cells #[.int .u8 k, .int .i64 l, .int .u64 s, .int .i64 n, .int .i64 m] 31)
  have X := hide (heap_new w (.cells #[.int .u8 k, .int .i64 l, .int .u64 s, .int .i64 n, .int .i64 m] 31))
  have hbw : B0 ≤ w.heap.size := by obtain ⟨cs, c1, -⟩ := h.row.ex; have := heap_lt c1; omega
  have HB := hide (TurnD.of_below hal hbw)
  have H := hide (h.below hal)
  have HM := hide (may_any (i : Int) _ H.out)
  rw [show mayE K (i : Int) = 0 by unfold mayE; rw [if_neg (by omega), Int.toNat_natCast, if_neg (by rw [hbad]; decide)]] at HM
  have HX := hide (fun W hW => dnext_yes (d := d) (b := b) (p := p) (q := q) (B := B) (G := G) (S := S) (K := K) i hi W hW)
  rw [hx] at HX
  have HR := hide (fun W => tright_yes k l s n m hT W)
  have HF := hide (fun W hW => frame_ok d 4 k l s n m hT s0 s1 td (by omega) W hW)
  have HC := hide (fun W hW => program_any p q B G S hS (i : Int) (j : Int) (bs td) (bs (frameL k l s n m td)) W hW)
  rw [hE] at HC
  have HTS := hide (show (bs td).size = S.size by rw [bs_size]; exact ht)
  have hf := h.few
  have HBAD := hide hbad
  have HD := hide hD
  have HBB := hide hB0
  have hpg : S.pgs ≤ 64 := h.chip.few.2
  have hjp : ¬ ((j : Int) = (S.pgs : Int)) := by omega
  have hj1 : ¬ ((j : Int) = -1) := by omega
  have hjp2 : ((j : Int) == (S.pgs : Int)) = false := beq_eq_false_iff_ne.mpr hjp
  have hj12 : ((j : Int) == -1) = false := beq_eq_false_iff_ne.mpr hj1
  clear h hal hbad hx ht hE hD hS hB0 hT s0 s1
  generalize (progT S (i : Int) (j : Int) (bs td) (bs (frameL k l s n m td))).1 = S2 at *
  generalize bs (frameL k l s n m td) = be at *
  generalize bs td = t at *
  go_enter Try.func8, Try.ntmps8
  go_upto_region 1 with (fail)
  generalize w.alloc (.cells #[.int .u8 k, .int .i64 l, .int .u64 s, .int .i64 n, .int .i64 m] 31) = w1 at *
  generalize hq : w.heap.size = q1 at *
  go_wp2_with fail
  refine HM.out.mono ?_
  rintro e w2 ⟨rfl, rfl⟩
  have hq1 := Nat.le_of_lt (Array.getElem?_eq_some_iff.mp X.out).1
  have hqb : B0 ≤ w1.heap.size := by omega
  have e0 := cell_of_block X.out 0
  have e1 := cell_of_block X.out 1
  have e2 := cell_of_block X.out 2
  have e3 := cell_of_block X.out 3
  have e4 := cell_of_block X.out 4
  have cs := H.out.cellSize
  have hts : (t.size : Int) = (S.size : Int) := by rw [HTS.out]
  go_wp2_with fail
  refine (HR.out _).mono ?_
  rintro e w3 ⟨rfl, hb⟩
  have H3 := hide (H.out.below hb)
  have X3 := hide ((hb.block _ (heap_lt X.out)).trans X.out)
  have cs3 := H3.out.cellSize
  have cp3 := H3.out.cellPages
  have B3 := hide (HB.out.trans (TurnD.of_below hb hqb))
  have hqb3 : B0 ≤ w3.heap.size := by have := hb.size; omega
  clear H HR HM X HB e0 e1 e2 e3 e4 cs hb
  go_wp2_with fail
  refine (HX.out _ H3.out).mono ?_
  rintro e w4 ⟨rfl, rfl⟩
  go_upto_region 9 with (fail)
  refine wp_region_held_drew (S := fun W => Below w3.heap.size w3 W) (by kernel_rfl) ((Below.refl _ _).drew) (fun hHeld => ?_)
  refine wpAnyH_take (i := 0) (oi := { dst := some 49, op := Op.move (Operand.tmp 0), type := 22, pos := "drive.go:165", after := #[], guard := none }) (v := ?_) rfl (by kernel_rfl) (by kernel_rfl) (by kernel_rfl) (fun _ _ _ h => h) (Or.inl ⟨by kernel_rfl, ?_⟩) hHeld ?_
  rotate_left
  · (intro w hSw; (try dsimp only at hSw); have e0 := cell_of_block ((hSw.block _ (heap_lt X3.out)).trans X3.out) 0; have e1 := cell_of_block ((hSw.block _ (heap_lt X3.out)).trans X3.out) 1; have e2 := cell_of_block ((hSw.block _ (heap_lt X3.out)).trans X3.out) 2; have e3 := cell_of_block ((hSw.block _ (heap_lt X3.out)).trans X3.out) 3; have e4 := cell_of_block ((hSw.block _ (heap_lt X3.out)).trans X3.out) 4; go_simp); try with_reducible rfl
  try simp only [Act.put, List.setIfInBounds_toArray, List.set_cons_zero, List.set_cons_succ]
  refine wpAnyH_take (i := 1) (oi := { dst := some 50, op := Op.nilCheck (Operand.tmp 49), type := 0, pos := "drive.go:165", after := #[{ on := 0, ground := Ground.data }], guard := none }) (v := ?_) rfl (by kernel_rfl) (by kernel_rfl) (by kernel_rfl) (fun _ _ _ h => h) (Or.inl ⟨by kernel_rfl, ?_⟩) hHeld ?_
  rotate_left
  · (intro w hSw; (try dsimp only at hSw); have e0 := cell_of_block ((hSw.block _ (heap_lt X3.out)).trans X3.out) 0; have e1 := cell_of_block ((hSw.block _ (heap_lt X3.out)).trans X3.out) 1; have e2 := cell_of_block ((hSw.block _ (heap_lt X3.out)).trans X3.out) 2; have e3 := cell_of_block ((hSw.block _ (heap_lt X3.out)).trans X3.out) 3; have e4 := cell_of_block ((hSw.block _ (heap_lt X3.out)).trans X3.out) 4; go_simp); try with_reducible rfl
  try simp only [Act.put, List.setIfInBounds_toArray, List.set_cons_zero, List.set_cons_succ]
  refine wpAnyH_take (i := 2) (oi := { dst := some 51, op := Op.fieldAddr 59 (Operand.tmp 50) 2, type := 0, pos := "drive.go:165", after := #[{ on := 1, ground := Ground.data }], guard := none }) (v := ?_) rfl (by kernel_rfl) (by kernel_rfl) (by kernel_rfl) (fun _ _ _ h => h) (Or.inl ⟨by kernel_rfl, ?_⟩) hHeld ?_
  rotate_left
  · (intro w hSw; (try dsimp only at hSw); have e0 := cell_of_block ((hSw.block _ (heap_lt X3.out)).trans X3.out) 0; have e1 := cell_of_block ((hSw.block _ (heap_lt X3.out)).trans X3.out) 1; have e2 := cell_of_block ((hSw.block _ (heap_lt X3.out)).trans X3.out) 2; have e3 := cell_of_block ((hSw.block _ (heap_lt X3.out)).trans X3.out) 3; have e4 := cell_of_block ((hSw.block _ (heap_lt X3.out)).trans X3.out) 4; go_simp); try with_reducible rfl
  try simp only [Act.put, List.setIfInBounds_toArray, List.set_cons_zero, List.set_cons_succ]
  refine wpAnyH_take (i := 3) (oi := { dst := some 52, op := Op.load 31 (Operand.tmp 6), type := 31, pos := "drive.go:165", after := #[], guard := none }) (v := ?_) rfl (by kernel_rfl) (by kernel_rfl) (by kernel_rfl) (fun _ _ _ h => h) (Or.inl ⟨by kernel_rfl, ?_⟩) hHeld ?_
  rotate_left
  · (intro w hSw; (try dsimp only at hSw); have e0 := cell_of_block ((hSw.block _ (heap_lt X3.out)).trans X3.out) 0; have e1 := cell_of_block ((hSw.block _ (heap_lt X3.out)).trans X3.out) 1; have e2 := cell_of_block ((hSw.block _ (heap_lt X3.out)).trans X3.out) 2; have e3 := cell_of_block ((hSw.block _ (heap_lt X3.out)).trans X3.out) 3; have e4 := cell_of_block ((hSw.block _ (heap_lt X3.out)).trans X3.out) 4; go_simp); try with_reducible rfl
  try simp only [Act.put, List.setIfInBounds_toArray, List.set_cons_zero, List.set_cons_succ]
  refine wpAnyH_take (i := 4) (oi := { dst := some 53, op := Op.move (Operand.tmp 3), type := 9, pos := "drive.go:165", after := #[], guard := none }) (v := ?_) rfl (by kernel_rfl) (by kernel_rfl) (by kernel_rfl) (fun _ _ _ h => h) (Or.inl ⟨by kernel_rfl, ?_⟩) hHeld ?_
  rotate_left
  · (intro w hSw; (try dsimp only at hSw); have e0 := cell_of_block ((hSw.block _ (heap_lt X3.out)).trans X3.out) 0; have e1 := cell_of_block ((hSw.block _ (heap_lt X3.out)).trans X3.out) 1; have e2 := cell_of_block ((hSw.block _ (heap_lt X3.out)).trans X3.out) 2; have e3 := cell_of_block ((hSw.block _ (heap_lt X3.out)).trans X3.out) 3; have e4 := cell_of_block ((hSw.block _ (heap_lt X3.out)).trans X3.out) 4; go_simp); try with_reducible rfl
  try simp only [Act.put, List.setIfInBounds_toArray, List.set_cons_zero, List.set_cons_succ]
  refine wpAnyH_ready (rs := [5]) (by kernel_rfl) (by simp) (AllReadyH.cons (o := { dst := some 54, op := Op.call { callee := Callee.value (Operand.func 31), args := #[Operand.tmp 51, Operand.tmp 52, Operand.tmp 53], argTypes := #[67, 31, 9] }, type := 70, pos := "drive.go:165", after := #[{ on := 2, ground := Ground.data }, { on := 3, ground := Ground.data }, { on := 4, ground := Ground.data }], guard := none }) rfl (fun K hK => ?_) AllReadyH.nil)
  have hOld := hide hHeld
  clear hHeld
  go_simp
  have hT4 := (H3.out.below hOld.out).tab
  refine (HF.out _ hT4).mono ?_
  rintro e w5 ⟨rfl, hb⟩
  have B5 := hide (hOld.out.trans (hb.mono hOld.out.size))
  clear hb hT4
  (try go_wp2_with fail)
  refine hK.out _ _ (B5.out) (fun hHeld => ?_)
  clear hK K hOld
  try simp only [Act.put, List.setIfInBounds_toArray, List.set_cons_zero, List.set_cons_succ]
  refine wpAnyH_take (i := 6) (oi := { dst := some 48, op := Op.move (Operand.tmp 54), type := 70, pos := "drive.go:165", after := #[{ on := 5, ground := Ground.data }], guard := none }) (v := ?_) rfl (by kernel_rfl) (by kernel_rfl) (by kernel_rfl) (fun _ _ _ h => h) (Or.inl ⟨by kernel_rfl, ?_⟩) hHeld ?_
  rotate_left
  · (intro w hSw; (try dsimp only at hSw); have e0 := cell_of_block ((hSw.block _ (heap_lt X3.out)).trans X3.out) 0; have e1 := cell_of_block ((hSw.block _ (heap_lt X3.out)).trans X3.out) 1; have e2 := cell_of_block ((hSw.block _ (heap_lt X3.out)).trans X3.out) 2; have e3 := cell_of_block ((hSw.block _ (heap_lt X3.out)).trans X3.out) 3; have e4 := cell_of_block ((hSw.block _ (heap_lt X3.out)).trans X3.out) 4; go_simp); try with_reducible rfl
  try simp only [Act.put, List.setIfInBounds_toArray, List.set_cons_zero, List.set_cons_succ]
  refine wpAnyH_take (i := 7) (oi := { dst := some 55, op := Op.extract (Operand.tmp 48) 0, type := 9, pos := "drive.go:165", after := #[{ on := 6, ground := Ground.data }], guard := none }) (v := ?_) rfl (by kernel_rfl) (by kernel_rfl) (by kernel_rfl) (fun _ _ _ h => h) (Or.inl ⟨by kernel_rfl, ?_⟩) hHeld ?_
  rotate_left
  · (intro w hSw; (try dsimp only at hSw); have e0 := cell_of_block ((hSw.block _ (heap_lt X3.out)).trans X3.out) 0; have e1 := cell_of_block ((hSw.block _ (heap_lt X3.out)).trans X3.out) 1; have e2 := cell_of_block ((hSw.block _ (heap_lt X3.out)).trans X3.out) 2; have e3 := cell_of_block ((hSw.block _ (heap_lt X3.out)).trans X3.out) 3; have e4 := cell_of_block ((hSw.block _ (heap_lt X3.out)).trans X3.out) 4; go_simp); try with_reducible rfl
  try simp only [Act.put, List.setIfInBounds_toArray, List.set_cons_zero, List.set_cons_succ]
  refine wpAnyH_take (i := 8) (oi := { dst := some 56, op := Op.extract (Operand.tmp 48) 1, type := 23, pos := "drive.go:165", after := #[{ on := 6, ground := Ground.data }, { on := 9, ground := Ground.gcOnly Departure.lateStores }], guard := none }) (v := ?_) rfl (by kernel_rfl) (by kernel_rfl) (by kernel_rfl) (fun _ _ _ h => h) (Or.inl ⟨by kernel_rfl, ?_⟩) hHeld ?_
  rotate_left
  · (intro w hSw; (try dsimp only at hSw); have e0 := cell_of_block ((hSw.block _ (heap_lt X3.out)).trans X3.out) 0; have e1 := cell_of_block ((hSw.block _ (heap_lt X3.out)).trans X3.out) 1; have e2 := cell_of_block ((hSw.block _ (heap_lt X3.out)).trans X3.out) 2; have e3 := cell_of_block ((hSw.block _ (heap_lt X3.out)).trans X3.out) 3; have e4 := cell_of_block ((hSw.block _ (heap_lt X3.out)).trans X3.out) 4; go_simp); try with_reducible rfl
  try simp only [Act.put, List.setIfInBounds_toArray, List.set_cons_zero, List.set_cons_succ]
  refine wpAnyH_take (i := 9) (oi := { dst := some 12, op := Op.assign (Operand.tmp 55), type := 9, pos := "drive.go:165", after := #[{ on := 7, ground := Ground.data }, { on := 5, ground := Ground.chain }, { on := 0, ground := Ground.phase }, { on := 1, ground := Ground.phase }, { on := 2, ground := Ground.phase }, { on := 3, ground := Ground.phase }, { on := 4, ground := Ground.phase }, { on := 5, ground := Ground.phase }, { on := 6, ground := Ground.phase }, { on := 7, ground := Ground.phase }, { on := 8, ground := Ground.textOnly Departure.lateStores }], guard := none }) (v := ?_) rfl (by kernel_rfl) (by kernel_rfl) (by kernel_rfl) (fun _ _ _ h => h) (Or.inl ⟨by kernel_rfl, ?_⟩) hHeld ?_
  rotate_left
  · (intro w hSw; (try dsimp only at hSw); have e0 := cell_of_block ((hSw.block _ (heap_lt X3.out)).trans X3.out) 0; have e1 := cell_of_block ((hSw.block _ (heap_lt X3.out)).trans X3.out) 1; have e2 := cell_of_block ((hSw.block _ (heap_lt X3.out)).trans X3.out) 2; have e3 := cell_of_block ((hSw.block _ (heap_lt X3.out)).trans X3.out) 3; have e4 := cell_of_block ((hSw.block _ (heap_lt X3.out)).trans X3.out) 4; go_simp); try with_reducible rfl
  try simp only [Act.put, List.setIfInBounds_toArray, List.set_cons_zero, List.set_cons_succ]
  refine wpAnyH_take (i := 10) (oi := { dst := some 13, op := Op.assign (Operand.tmp 56), type := 23, pos := "drive.go:165", after := #[{ on := 8, ground := Ground.data }, { on := 9, ground := Ground.chain }, { on := 0, ground := Ground.phase }, { on := 1, ground := Ground.phase }, { on := 2, ground := Ground.phase }, { on := 3, ground := Ground.phase }, { on := 4, ground := Ground.phase }, { on := 5, ground := Ground.phase }, { on := 6, ground := Ground.phase }, { on := 7, ground := Ground.phase }, { on := 8, ground := Ground.phase }, { on := 9, ground := Ground.phase }], guard := none }) (v := ?_) rfl (by kernel_rfl) (by kernel_rfl) (by kernel_rfl) (fun _ _ _ h => h) (Or.inl ⟨by kernel_rfl, ?_⟩) hHeld ?_
  rotate_left
  · (intro w hSw; (try dsimp only at hSw); have e0 := cell_of_block ((hSw.block _ (heap_lt X3.out)).trans X3.out) 0; have e1 := cell_of_block ((hSw.block _ (heap_lt X3.out)).trans X3.out) 1; have e2 := cell_of_block ((hSw.block _ (heap_lt X3.out)).trans X3.out) 2; have e3 := cell_of_block ((hSw.block _ (heap_lt X3.out)).trans X3.out) 3; have e4 := cell_of_block ((hSw.block _ (heap_lt X3.out)).trans X3.out) 4; go_simp); try with_reducible rfl
  try simp only [Act.put, List.setIfInBounds_toArray, List.set_cons_zero, List.set_cons_succ]
  refine wpAnyH_done (by kernel_rfl) ?_ _
  clear hHeld
  have H5 := hide (H3.out.below B5.out)
  have B6 := hide (B3.out.trans (TurnD.of_below B5.out hqb3))
  have c0 := H5.out.cell0
  clear H3 X3 HF B3 B5 cs3 cp3 HX
  go_wp2_with fail
  refine (HC.out _ H5.out.chip).mono ?_
  rintro e w6 ⟨rfl, hn, ht⟩
  have D6 := hide (H5.out.turn hn ht HD.out.1 HD.out.2.1 HD.out.2.2)
  have B7 := hide (B6.out.trans (TurnD.of_turn ht HBB.out.1))
  clear hn ht HC c0 H5 B6
  have c := D6.out.cellRow
  obtain ⟨a0, a1, f0, f1⟩ := D6.out.at i hi
  have D7 := hide (D6.out.know i hi 1 (by decide) (.int .i64 ((j : Int) + 1)) ⟨false, (j : Int) + 1⟩ (by unfold knC; rw [HBAD.out]; rfl))
  obtain ⟨csr, hcsr⟩ := D6.out.base
  have B8 := hide (B7.out.know hcsr HBB.out.2 (i * 2 + 1) (.int .i64 ((j : Int) + 1)))
  clear hcsr
  clear a0 f0
  generalize (K.getD i kn0).next = xn at *
  go_wp2_with fail
  go_ret2
  exact ⟨rfl, D7.out, B8.out⟩
end
end Go.Proofs.Ytoneolpjeonpaaa

namespace Go.Proofs.Ytoneolpjeonpaaa
set_option linter.unusedSimpArgs false
set_option linter.unusedVariables false
open Go.RowKit Go.WideShapes Go.ChangeShapes Go.ChangeAt Go.Deep
set_option maxRecDepth 100000 in
set_option maxHeartbeats 400000 in
theorem full8_any (s : ByteArray) (hs : s.size ≤ 1000000) (n : Nat) (hn : n ≤ 2000) (w : World) :
    Calls Try.prog 15 #[.string s, .int .i64 (n : Int)] w fun e w' => e = .returned (.string (fullB s n)) ∧ Below w.heap.size w w' := by
  have HR := hide (show ∀ W, Calls Try.prog 39 #[.string ⟨#[85]⟩, .int .i64 (n : Int)] W fun e w' => e = .returned (.string (fillU n)) ∧ Below W.heap.size W w' from fun W => Try.strings_Repeat ⟨#[85]⟩ n W (by omega) (by show 1 * n ≤ _; omega))
  have hfs := fillU_size n
  have HF := hide (show fullB s n = (s ++ fillU n).extract 0 n from rfl)
  rw [HF.out]
  generalize fillU n = t at *
  have hsz : (s ++ t).size = s.size + n := by rw [ByteArray.size_append, hfs]
  have hle : (n : Int) ≤ (s.size : Int) + (t.size : Int) := by omega
  have hle2 : (n : Int) ≤ ((s ++ t).size : Int) := by rw [hsz]; omega
  have hno : ¬ 9223372036854775807 < s.size + t.size := by omega
  clear hfs HF
  go_enter Try.func15, Try.ntmps15
  go_wp2_with fail
  refine (HR.out _).mono ?_
  rintro e w1 ⟨rfl, hb⟩
  have HB := hide hb
  clear hb
  go_wp2_with fail
  go_ret
  exact ⟨rfl, HB.out⟩
/-- a page's cells -/
def pageC (st k l s n m : Int) (t : ByteArray) : Array Value := #[.int .i64 st, .int .u8 k, .int .i64 l, .int .u64 s, .int .i64 n, .int .i64 m, .string t]
theorem page_size (st k l s n m : Int) (t : ByteArray) : (Try.prog.info? 33).map (·.size) = some (pageC st k l s n m t).size := by
  show _ = some 7
  kernel_rfl
theorem res_page {fn : Func} {p u : Tmp} (h : fn.results = #[.cell p 33, .tmp u]) (tmps : Array Value) (w : World) (A : Nat) (st k l s n m : Int) (t : ByteArray) (v : Value)
    (hp : tmps.getD p undef = .pointer (some ⟨A, 0, none⟩)) (hu : tmps.getD u undef = v) (hg : w.heap[A]? = some (.cells (pageC st k l s n m t) 33 (0, 0))) : (results fn tmps).run Try.prog w = .ok (.tuple #[.agg (pageC st k l s n m t), v]) w := by
  rw [results_cell_tmp h, hp, hu]
  simp [asAddr, Result.andThen, run_loadVar_row w A 33 33 _ _ _ hg Try.underlying33 rfl (page_size st k l s n m t)]
theorem page_set {W : World} {A : Nat} {a0 a1 a2 a3 a4 a5 st k l s n m : Int} {y x : ByteArray} {t : TypeId} (h : W.heap[A]? = some (.cells (pageC a0 a1 a2 a3 a4 a5 y) t (0, 0))) :
    (((((((W.setCell ⟨A, 0, none⟩ (.int .i64 st)).setCell ⟨A, 1, none⟩ (.int .u8 k)).setCell ⟨A, 2, none⟩ (.int .i64 l)).setCell ⟨A, 3, none⟩ (.int .u64 s)).setCell ⟨A, 4, none⟩ (.int .i64 n)).setCell ⟨A, 5, none⟩ (.int .i64 m)).setCell ⟨A, 6, none⟩ (.string x)).heap[A]? = some (.cells (pageC st k l s n m x) t (0, 0)) := by
  have h0 : (W.setCell ⟨A, 0, none⟩ (.int .i64 st)).heap[A]? = some (.cells (pageC st a1 a2 a3 a4 a5 y) t (0, 0)) := block_setCell h _ _
  have h1 : ((W.setCell ⟨A, 0, none⟩ (.int .i64 st)).setCell ⟨A, 1, none⟩ (.int .u8 k)).heap[A]? = some (.cells (pageC st k a2 a3 a4 a5 y) t (0, 0)) := block_setCell h0 _ _
  have h2 : (((W.setCell ⟨A, 0, none⟩ (.int .i64 st)).setCell ⟨A, 1, none⟩ (.int .u8 k)).setCell ⟨A, 2, none⟩ (.int .i64 l)).heap[A]? = some (.cells (pageC st k l a3 a4 a5 y) t (0, 0)) := block_setCell h1 _ _
  have h3 : ((((W.setCell ⟨A, 0, none⟩ (.int .i64 st)).setCell ⟨A, 1, none⟩ (.int .u8 k)).setCell ⟨A, 2, none⟩ (.int .i64 l)).setCell ⟨A, 3, none⟩ (.int .u64 s)).heap[A]? = some (.cells (pageC st k l s a4 a5 y) t (0, 0)) := block_setCell h2 _ _
  have h4 : (((((W.setCell ⟨A, 0, none⟩ (.int .i64 st)).setCell ⟨A, 1, none⟩ (.int .u8 k)).setCell ⟨A, 2, none⟩ (.int .i64 l)).setCell ⟨A, 3, none⟩ (.int .u64 s)).setCell ⟨A, 4, none⟩ (.int .i64 n)).heap[A]? = some (.cells (pageC st k l s n a5 y) t (0, 0)) := block_setCell h3 _ _
  have h5 : ((((((W.setCell ⟨A, 0, none⟩ (.int .i64 st)).setCell ⟨A, 1, none⟩ (.int .u8 k)).setCell ⟨A, 2, none⟩ (.int .i64 l)).setCell ⟨A, 3, none⟩ (.int .u64 s)).setCell ⟨A, 4, none⟩ (.int .i64 n)).setCell ⟨A, 5, none⟩ (.int .i64 m)).heap[A]? = some (.cells (pageC st k l s n m y) t (0, 0)) := block_setCell h4 _ _
  exact block_setCell h5 _ _
set_option maxRecDepth 100000 in
set_option maxHeartbeats 400000 in
theorem dread_nil (i j : Int) (w : World) : Calls Try.prog 7 #[.pointer none, .int .i64 i, .int .i64 j] w fun e w' => e = .returned (.tuple #[.agg (pageC 0 0 0 0 0 0 ⟨#[]⟩), .int .i64 1]) ∧ Below w.heap.size w w' := by
  go_enter Try.func7, Try.ntmps7
  go_wp2_with fail
  exact bodyPost_ret (res_page Try.results7 _ _ w.heap.size 0 0 0 0 0 0 ⟨#[]⟩ _ rfl rfl (heap_new _ _)) rfl ⟨rfl, (Below.refl _ _).alloc (Nat.le_refl _) _⟩
end Go.Proofs.Ytoneolpjeonpaaa

namespace Go.Proofs.Ytoneolpjeonpaaa
set_option linter.unusedSimpArgs false
set_option linter.unusedVariables false
open Go.RowKit Go.WideShapes Go.ChangeShapes Go.ChangeAt Go.Deep
section
variable {w w' : World} {d b p q B : Nat} {G : Nat → Nat} {S S' : ChipM} {K : List KnM}
set_option maxRecDepth 100000 in
set_option maxHeartbeats 400000 in
theorem dread_tag (i j : Int) (k l s n m : Int) (hT : TagOk k l n m) (s0 : 0 ≤ s) (s1 : s ≤ 18446744073709551615) (td : List UInt8) (ht : td.length ≤ 1024) (ha : askE S i j = 0) (hr : readP S i j = (bs td, bs (frameL k l s n m td))) (w : World) (h : DriveAt w d b p q B G S K) :
    Calls Try.prog 7 #[.pointer (some ⟨d, 0, none⟩), .int .i64 i, .int .i64 j] w fun e w' => e = .returned (.tuple #[.agg (pageC 4 k l s n m (bs td)), .int .i64 0]) ∧ Below w.heap.size w w' := by
  have hal := (Below.refl w.heap.size w).alloc (Nat.le_refl _) (.cells #[.int .i64 0, .int .u8 0, .int .i64 0, .int .u64 0, .int .i64 0, .int .i64 0, .string ⟨#[]⟩] 33)
  have X := hide (heap_new w (.cells #[.int .i64 0, .int .u8 0, .int .i64 0, .int .u64 0, .int .i64 0, .int .i64 0, .string ⟨#[]⟩] 33))
  have HB := hide hal
  have H := hide (h.below hal)
  have HN := hide (fun W hW => nread_any p q B G S i j W hW)
  rw [ha, hr] at HN
  have HP := hide (fun W hW => parseV_frame k l s n m hT s0 s1 d 4 td (by omega) W hW)
  clear h hal ha hr hT s0 s1 ht
  generalize bs (frameL k l s n m td) = be at *
  generalize bs td = t at *
  have c0 := H.out.cell0
  go_enter Try.func7, Try.ntmps7
  go_upto_region 1 with (fail)
  generalize w.alloc (.cells #[.int .i64 0, .int .u8 0, .int .i64 0, .int .u64 0, .int .i64 0, .int .i64 0, .string ⟨#[]⟩] 33) = w1 at *
  generalize hq : w.heap.size = q1 at *
  have hq1 := Nat.le_of_lt (Array.getElem?_eq_some_iff.mp X.out).1
  go_wp2_with fail
  refine (HN.out _ H.out.chip).mono ?_
  rintro e w2 ⟨rfl, hb⟩
  have H2 := hide (H.out.below hb)
  have X2 := hide ((hb.block _ (heap_lt X.out)).trans X.out)
  have B2 := hide (HB.out.trans (hb.mono hq1))
  have hq2 : q1 ≤ w2.heap.size := by have := hb.size; omega
  clear H HN X HB hb c0 hq1
  go_wp2_with fail
  refine (HP.out _ H2.out.tab).mono ?_
  rintro e w3 ⟨rfl, hb⟩
  have X3 := hide ((hb.block _ (heap_lt X2.out)).trans X2.out)
  have B3 := hide (B2.out.trans (hb.mono hq2))
  have hq3 : q1 < w3.heap.size := heap_lt X3.out
  clear HP H2 B2 X2 hb hq2
  go_upto_region 8 with (fail)
  have XT := hide (heap_new w3 (.cells #[.int .u8 k, .int .i64 l, .int .u64 s, .int .i64 n, .int .i64 m] 31))
  have hal := (Below.refl w3.heap.size w3).alloc (Nat.le_refl _) (.cells #[.int .u8 k, .int .i64 l, .int .u64 s, .int .i64 n, .int .i64 m] 31)
  have X4 := hide ((hal.block _ hq3).trans X3.out)
  have B4 := hide (B3.out.trans (hal.mono (Nat.le_of_lt hq3)))
  generalize w3.alloc (.cells #[.int .u8 k, .int .i64 l, .int .u64 s, .int .i64 n, .int .i64 m] 31) = w4 at *
  generalize w3.heap.size = q3 at *
  have e0 := cell_of_block XT.out 0
  have e1 := cell_of_block XT.out 1
  have e2 := cell_of_block XT.out 2
  have e3 := cell_of_block XT.out 3
  have e4 := cell_of_block XT.out 4
  have hq4 : q1 < w4.heap.size := heap_lt X4.out
  clear X3 B3 hal
  go_upto_region 10 with (fail)
  clear e0 e1 e2 e3 e4 XT hq3
  have XP := hide (heap_new w4 (.cells #[.int .i64 0, .int .u8 k, .int .i64 l, .int .u64 s, .int .i64 n, .int .i64 m, .string t] 33))
  have hal := (Below.refl w4.heap.size w4).alloc (Nat.le_refl _) (.cells #[.int .i64 0, .int .u8 k, .int .i64 l, .int .u64 s, .int .i64 n, .int .i64 m, .string t] 33)
  have X5 := hide ((hal.block _ hq4).trans X4.out)
  have B5 := hide (B4.out.trans (hal.mono (Nat.le_of_lt hq4)))
  generalize w4.alloc (.cells #[.int .i64 0, .int .u8 k, .int .i64 l, .int .u64 s, .int .i64 n, .int .i64 m, .string t] 33) = w5 at *
  generalize w4.heap.size = q4 at *
  clear X4 B4 hal
  have hne : ¬ q4 = q1 := by omega
  have hne2 : ¬ q1 = q4 := by omega
  have f0 := frozen_of_block XP.out 0
  have c0 : w5.cell? ⟨q4, 0, none⟩ = some (.int .i64 0) := by rw [cell_of_block XP.out]; rfl
  go_upto_region 16 with (fail)
  have XQ := hide (show (w5.setCell ⟨q4, 0, none⟩ (.int .i64 4)).heap[q4]? = some (.cells #[.int .i64 4, .int .u8 k, .int .i64 l, .int .u64 s, .int .i64 n, .int .i64 m, .string t] 33 (0, 0)) from block_setCell XP.out _ _)
  have X6 := hide ((block_setCell_other (w := w5) (g := q4) (b := q1) hne 0 (.int .i64 4)).trans X5.out)
  have B6 := hide (B5.out.setCell (p := ⟨q4, 0, none⟩) (Nat.le_of_lt hq4) (.int .i64 4))
  generalize w5.setCell ⟨q4, 0, none⟩ (.int .i64 4) = w6 at *
  clear X5 B5 XP f0 c0
  have e0 := cell_of_block XQ.out 0
  have e1 := cell_of_block XQ.out 1
  have e2 := cell_of_block XQ.out 2
  have e3 := cell_of_block XQ.out 3
  have e4 := cell_of_block XQ.out 4
  have e5 := cell_of_block XQ.out 5
  have e6 := cell_of_block XQ.out 6
  have g0 := cell_of_block X6.out 0
  have g1 := cell_of_block X6.out 1
  have g2 := cell_of_block X6.out 2
  have g3 := cell_of_block X6.out 3
  have g4 := cell_of_block X6.out 4
  have g5 := cell_of_block X6.out 5
  have g6 := cell_of_block X6.out 6
  have z0 := frozen_of_block X6.out 0
  have z1 := frozen_of_block X6.out 1
  have z2 := frozen_of_block X6.out 2
  have z3 := frozen_of_block X6.out 3
  have z4 := frozen_of_block X6.out 4
  have z5 := frozen_of_block X6.out 5
  have z6 := frozen_of_block X6.out 6
  go_wp2_with fail
  exact bodyPost_ret (res_page Try.results7 _ _ q1 4 k l s n m t _ rfl rfl (page_set X6.out)) rfl ⟨rfl, by rw [hq]; exact ((((((B6.out.setCell (p := ⟨q1, 0, none⟩) (Nat.le_refl _) _).setCell (p := ⟨q1, 1, none⟩) (Nat.le_refl _) _).setCell (p := ⟨q1, 2, none⟩) (Nat.le_refl _) _).setCell (p := ⟨q1, 3, none⟩) (Nat.le_refl _) _).setCell (p := ⟨q1, 4, none⟩) (Nat.le_refl _) _).setCell (p := ⟨q1, 5, none⟩) (Nat.le_refl _) _).setCell (p := ⟨q1, 6, none⟩) (Nat.le_refl _) _⟩
end
end Go.Proofs.Ytoneolpjeonpaaa

namespace Go.Proofs.Ytoneolpjeonpaaa
set_option linter.unusedSimpArgs false
set_option linter.unusedVariables false
def dw1 : ChipM := newS 4 2 32
def dw2 : ChipM := (eraseT dw1 1).1
theorem dw_ok1 : NandOk dw1 := ⟨by decide +kernel, by decide +kernel, by decide +kernel, by decide +kernel, by decide +kernel, by decide +kernel⟩
theorem dw_few : FewE dw1 := fun k hk => by
  have h4 : k < 4 := hk
  have : k = 0 ∨ k = 1 ∨ k = 2 ∨ k = 3 := by omega
  rcases this with rfl | rfl | rfl | rfl <;> exact ⟨by decide +kernel, by decide +kernel⟩
theorem dw_er : (eraseT dw1 1).2 = 0 := by decide +kernel
theorem dw_dims : DimsSame dw1 dw2 := ⟨by decide +kernel, by decide +kernel, by decide +kernel⟩
theorem dw_ok2 : NandOk dw2 := ⟨by decide +kernel, by decide +kernel, by decide +kernel, by decide +kernel, by decide +kernel, by decide +kernel⟩
theorem dw_pr (d e : ByteArray) (hd : d.size = 32) (he : e.size = 32) : progT dw2 1 0 d e = (progS dw2 1 0 d e, 0) := by
  have hs : dw2.size = 32 := by decide +kernel
  unfold progT
  rw [if_neg (by decide +kernel), if_neg (by rw [hd, he, hs]; decide), if_neg (by decide +kernel)]
  congr 1
theorem dw_dims2 (d e : ByteArray) : DimsSame dw2 (progS dw2 1 0 d e) := ⟨rfl, rfl, rfl⟩
theorem dw_ask (d e : ByteArray) : askE (progS dw2 1 0 d e) 1 0 = 0 := rfl
theorem dw_read (d e : ByteArray) : readP (progS dw2 1 0 d e) 1 0 = (d, e) := rfl
theorem dw_sins (d e : ByteArray) : (progS dw2 1 0 d e).sins = 0 := rfl
theorem dw_off (d e : ByteArray) : dw2.off = false ∧ (progS dw2 1 0 d e).off = false := ⟨rfl, rfl⟩
end Go.Proofs.Ytoneolpjeonpaaa

namespace Go.Proofs.Ytoneolpjeonpaaa
set_option linter.unusedSimpArgs false
set_option linter.unusedVariables false
/-- a new drive's cells -/
def drvC (p : Nat) (a b c : Int) (q n : Nat) : Array Value := #[.pointer (some ⟨p, 0, none⟩), .int .i64 a, .int .i64 b, .int .i64 c] ++ tabC 256 ++ #[.slice (some ⟨q, 0, none⟩) n n]
set_option maxRecDepth 100000 in
theorem drv_build (p : Nat) (a b c : Int) (q n : Nat) (w : World) :
    (Instr.build 59 #[(0, .pointer (some ⟨p, 0, none⟩)), (1, .agg #[.int .i64 a, .int .i64 b, .int .i64 c]), (2, .agg (tabC 256)), (3, .slice (some ⟨q, 0, none⟩) n n)]).run Try.prog w = .ok (.agg (drvC p a b c q n)) w := by kernel_rfl
end Go.Proofs.Ytoneolpjeonpaaa

namespace Go.Proofs.Ytoneolpjeonpaaa
set_option linter.unusedSimpArgs false
set_option linter.unusedVariables false
set_option maxRecDepth 100000 in
theorem drv_box (p : Nat) (a b c : Int) (q n : Nat) (w : World) :
    (Instr.box 59 (.agg (drvC p a b c q n))).run Try.prog w = .ok (.pointer (some ⟨w.heap.size, 0, none⟩)) (w.alloc (.cells (drvC p a b c q n) 59)) := by
  generalize hT : drvC p a b c q n = T
  kernel_rfl
theorem drvC_at (p : Nat) (a b c : Int) (q n : Nat) : (drvC p a b c q n)[0]? = some (.pointer (some ⟨p, 0, none⟩)) ∧ (drvC p a b c q n)[1]? = some (.int .i64 a) ∧ (drvC p a b c q n)[2]? = some (.int .i64 b) ∧ (drvC p a b c q n)[3]? = some (.int .i64 c) ∧
    (∀ k, k < 256 → (drvC p a b c q n)[4 + k]? = some (.int .u32 (tabN k : Int))) ∧ (drvC p a b c q n)[260]? = some (.slice (some ⟨q, 0, none⟩) n n) := by
  have hz := tabC_size 256
  unfold drvC
  refine ⟨?_, ?_, ?_, ?_, fun k hk => ?_, ?_⟩
  · rw [Array.append_assoc, Array.getElem?_append_left (by simp)]; rfl
  · rw [Array.append_assoc, Array.getElem?_append_left (by simp)]; rfl
  · rw [Array.append_assoc, Array.getElem?_append_left (by simp)]; rfl
  · rw [Array.append_assoc, Array.getElem?_append_left (by simp)]; rfl
  · rw [Array.getElem?_append_left (by simp [hz]; omega), Array.getElem?_append_right (by simp)]
    have h4 : 4 + k - 4 = k := by omega
    have := tabC_at 256 k hk
    rw [if_pos hk] at this
    simpa [h4] using this
  · rw [Array.getElem?_append_right (by simp [hz])]
    simp [hz]
end Go.Proofs.Ytoneolpjeonpaaa

namespace Go.Proofs.Ytoneolpjeonpaaa
set_option linter.unusedSimpArgs false
set_option linter.unusedVariables false
section
variable {P : Program} (w : World) {ops : Array Oper} {rest : List Oper} {o : Oper} {a : Act} {Q : Exit → Act → World → Prop}
theorem wpList_build4 (hg : o.guard = none) (t : TypeId) (x y z u : Operand) (i j k l : Nat) (hop : o.op = Op.build t #[(i, x), (j, y), (k, z), (l, u)]) (x' y' z' u' : Value) (hx : a.eval x = x') (hy : a.eval y = y') (hz : a.eval z = z') (hu : a.eval u = u') (v : Value)
    (hv : (Instr.build t #[(i, x'), (j, y'), (k, z'), (l, u')]).run P w = .ok v w) (hK : wpList P ops Q rest (a.put o.dst v) w) : wpList P ops Q (o :: rest) a w := by
  refine wpList_plain hg fun K' hK' => ?_
  unfold Oper.wp
  simp [execOp, hop, hx, hy, hz, hu, hv, Result.andThen]
  exact hK' _ _ hK
theorem wpList_boxV (hg : o.guard = none) (t : TypeId) (x : Operand) (hop : o.op = Op.box t x) (x' : Value) (hx : a.eval x = x') (v : Value) (w' : World)
    (hv : (Instr.box t x').run P w = .ok v w') (hK : wpList P ops Q rest (a.put o.dst v) w') : wpList P ops Q (o :: rest) a w := by
  refine wpList_plain hg fun K' hK' => ?_
  unfold Oper.wp
  simp [execOp, hop, hx, hv, Result.andThen]
  exact hK' _ _ hK
end
end Go.Proofs.Ytoneolpjeonpaaa

namespace Go.Proofs.Ytoneolpjeonpaaa
set_option linter.unusedSimpArgs false
set_option linter.unusedVariables false
open Go.RowKit Go.WideShapes Go.ChangeShapes Go.ChangeAt Go.Deep
section
variable {W : World} {b p q B n : Nat} {G : Nat → Nat} {S : ChipM}
theorem drive_new (hN : NandAt W p q B G S) (hn : S.L.length = n) {cs : Array Value} (hb : W.heap[b]? = some (.cells cs 74 (0, 0))) (hs : cs.size = n * 2) (hc : ∀ k, k < n → cs[k * 2]? = some (.bool false) ∧ cs[k * 2 + 1]? = some (.int .i64 0)) :
    DriveAt (W.alloc (.cells (drvC p (S.L.length : Int) (S.pgs : Int) (S.size : Int) b n) 59)) W.heap.size b p q B G S (List.replicate n kn0) := by
  have hal := (Below.refl W.heap.size W).alloc (Nat.le_refl _) (.cells (drvC p (S.L.length : Int) (S.pgs : Int) (S.size : Int) b n) 59)
  obtain ⟨h0, h1, h2, h3, h4, h5⟩ := drvC_at p (S.L.length : Int) (S.pgs : Int) (S.size : Int) b n
  refine ⟨⟨_, heap_new _ _, h0, h1, h2, h3, h4, ?_⟩, ⟨cs, (hal.block _ (heap_lt hb)).trans hb, ?_, ?_⟩, hN.below hal, ?_⟩
  · rw [List.length_replicate]; exact h5
  · rw [List.length_replicate]; exact hs
  · intro k hk j hj
    rw [List.length_replicate] at hk
    obtain ⟨a0, a1⟩ := hc k hk
    have hg : (List.replicate n kn0).getD k kn0 = kn0 := by simp [List.getD, hk]
    rw [hg]
    have hj2 : j = 0 ∨ j = 1 := by omega
    rcases hj2 with rfl | rfl
    · exact a0
    · exact a1
  · rw [List.length_replicate]; exact hn.symm
end
end Go.Proofs.Ytoneolpjeonpaaa

namespace Go.Proofs.Ytoneolpjeonpaaa
set_option linter.unusedSimpArgs false
set_option linter.unusedVariables false
open Go.RowKit Go.WideShapes Go.ChangeShapes Go.ChangeAt Go.Deep
section
variable {P : Program} {o : Oper} {a : Act} {w : World} {K : Act → World → Prop} {Q : Exit → Act → World → Prop}
theorem wp_build4 (t : TypeId) (x y z u : Operand) (i j k l : Nat) (hop : o.op = Op.build t #[(i, x), (j, y), (k, z), (l, u)]) (x' y' z' u' : Value) (hx : a.eval x = x') (hy : a.eval y = y') (hz : a.eval z = z') (hu : a.eval u = u') (v : Value)
    (hv : (Instr.build t #[(i, x'), (j, y'), (k, z'), (l, u')]).run P w = .ok v w) (hK : K (a.put o.dst v) w) : o.wp P a w K Q := by
  unfold Oper.wp
  simp [execOp, hop, hx, hy, hz, hu, hv, Result.andThen]
  exact hK
theorem wp_boxV (t : TypeId) (x : Operand) (hop : o.op = Op.box t x) (x' : Value) (hx : a.eval x = x') (v : Value) (w' : World)
    (hv : (Instr.box t x').run P w = .ok v w') (hK : K (a.put o.dst v) w') : o.wp P a w K Q := by
  unfold Oper.wp
  simp [execOp, hop, hx, hv, Result.andThen]
  exact hK
end
theorem flat_two (n : Nat) : ∀ k, k < n → ((List.replicate n ()).flatMap fun _ => [Value.bool false, Value.int .i64 0])[k * 2]? = some (.bool false) ∧ ((List.replicate n ()).flatMap fun _ => [Value.bool false, Value.int .i64 0])[k * 2 + 1]? = some (.int .i64 0) := by
  induction n with
  | zero => intro k hk; omega
  | succ n ih =>
    intro k hk
    rw [List.replicate_succ, List.flatMap_cons]
    cases k with
    | zero => exact ⟨rfl, rfl⟩
    | succ k =>
      have := ih k (by omega)
      rw [show (k + 1) * 2 = k * 2 + 1 + 1 by omega]
      exact this
theorem made_size (n : Nat) : ((List.replicate n ()).flatMap fun _ => [Value.bool false, Value.int .i64 0]).toArray.size = n * 2 := by
  simp [Nat.mul_comm]
theorem made_at (n : Nat) : ∀ k, k < n → ((List.replicate n ()).flatMap fun _ => [Value.bool false, Value.int .i64 0]).toArray[k * 2]? = some (.bool false) ∧ ((List.replicate n ()).flatMap fun _ => [Value.bool false, Value.int .i64 0]).toArray[k * 2 + 1]? = some (.int .i64 0) := fun k hk => by
  rw [List.getElem?_toArray, List.getElem?_toArray]; exact flat_two n k hk
theorem fgK_zero (n : Nat) : fgK (List.replicate n kn0) (List.replicate n kn0).length = List.replicate n ⟨false, -1⟩ := by
  unfold fgK
  rw [List.take_length, List.drop_length, List.append_nil, List.map_replicate]
  rfl
/-- what New of a chip leaves -/
def DNewIs (p q B : Nat) (G : Nat → Nat) (S : ChipM) (w : World) (e : Ending) (w' : World) : Prop := ∃ d b, e = .returned (.tuple #[.pointer (some ⟨d, 0, none⟩), .int .i64 0]) ∧ DriveAt w' d b p q B G S (List.replicate S.L.length ⟨false, -1⟩) ∧ Below w.heap.size w w' ∧ w.heap.size ≤ b ∧ w.heap.size ≤ d
section
variable {p q B : Nat} {G : Nat → Nat} {S : ChipM}
set_option maxRecDepth 100000 in
set_option maxHeartbeats 400000 in
theorem dnew_go (w : World) (h : NandAt w p q B G S) :
    Calls Try.prog 5 #[.pointer (some ⟨p, 0, none⟩)] w (DNewIs p q B G S w) := by
  have hfew := h.few.1
  have HN := hide h
  have HS := hide (fun W hW => shape_any p q B G S W hW)
  have HM := hide (fun W => make_any W)
  have HF := hide (fun (d b : Nat) W (hW : DriveAt W d b p q B G S (List.replicate S.L.length kn0)) => forget_any W hW)
  have hmk := fun W => run_make_rows (P := Try.prog) 57 74 (z := .agg #[.bool false, .int .i64 0]) (B := 16) (k := 2) [.bool false, .int .i64 0] Try.underlying57 (by kernel_rfl) rfl rfl (by decide) S.L.length (by omega) (by omega) W
  clear h
  go_enter Try.func5, Try.ntmps5
  go_wp2_with fail
  refine (HS.out _ HN.out).mono ?_
  rintro e w1 ⟨rfl, hb⟩
  have HBW := hide (hb.alloc hb.size (.cells #[.int .i64 (S.L.length : Int), .int .i64 (S.pgs : Int), .int .i64 (S.size : Int)] 48))
  have XS0 := hide (heap_new w1 (.cells #[.int .i64 (S.L.length : Int), .int .i64 (S.pgs : Int), .int .i64 (S.size : Int)] 48))
  clear hb HS
  go_upto_region 4 with (fail)
  generalize w1.alloc (.cells #[.int .i64 (S.L.length : Int), .int .i64 (S.pgs : Int), .int .i64 (S.size : Int)] 48) = w2 at *
  generalize w1.heap.size = sb at *
  go_cut [5] from 10 to 18 (fun s5 W => ∃ d b, s5 = .pointer (some ⟨d, 0, none⟩) ∧ DriveAt W d b p q B G S (List.replicate S.L.length kn0) ∧ Below w.heap.size w W ∧ w.heap.size ≤ b ∧ w.heap.size ≤ d)
  case first =>
    have XS0 := hide (show w2.drew.heap[sb]? = _ from XS0.out)
    have HBW := hide (show Below w.heap.size w w2.drew from HBW.out.drew)
    refine wp_region_held_drew (S := (fun W => Below w2.drew.heap.size w2.drew W)) (by kernel_rfl) (Below.refl _ _) (fun hHeld => ?_)
    generalize w2.drew = v0 at *
    have BL0 := hide (show Below v0.heap.size v0 v0 from Below.refl _ _)
    refine wpAnyH_take (i := 0) (oi := { dst := some 10, op := Op.move (Operand.tmp 0), type := 40, pos := "drive.go:52", after := #[], guard := none }) (v := ?_) rfl (by kernel_rfl) (by kernel_rfl) (by kernel_rfl) (fun _ _ _ h => h) (Or.inl ⟨by kernel_rfl, ?_⟩) hHeld ?_
    rotate_left
    · (intro w hSw; (try dsimp only at hSw); have e0 := cell_of_block ((hSw.block _ (heap_lt XS0.out)).trans XS0.out) 0; have e1 := cell_of_block ((hSw.block _ (heap_lt XS0.out)).trans XS0.out) 1; have e2 := cell_of_block ((hSw.block _ (heap_lt XS0.out)).trans XS0.out) 2; go_simp); try with_reducible rfl
    try simp only [Act.put, List.setIfInBounds_toArray, List.set_cons_zero, List.set_cons_succ]
    refine wpAnyH_take (i := 1) (oi := { dst := some 11, op := Op.load 48 (Operand.tmp 4), type := 48, pos := "drive.go:52", after := #[], guard := none }) (v := ?_) rfl (by kernel_rfl) (by kernel_rfl) (by kernel_rfl) (fun _ _ _ h => h) (Or.inl ⟨by kernel_rfl, ?_⟩) hHeld ?_
    rotate_left
    · (intro w hSw; (try dsimp only at hSw); have e0 := cell_of_block ((hSw.block _ (heap_lt XS0.out)).trans XS0.out) 0; have e1 := cell_of_block ((hSw.block _ (heap_lt XS0.out)).trans XS0.out) 1; have e2 := cell_of_block ((hSw.block _ (heap_lt XS0.out)).trans XS0.out) 2; go_simp); try with_reducible rfl
    try simp only [Act.put, List.setIfInBounds_toArray, List.set_cons_zero, List.set_cons_succ]
    refine wpAnyH_take (i := 3) (oi := { dst := some 13, op := Op.fieldAddr 48 (Operand.tmp 4) 0, type := 0, pos := "drive.go:52", after := #[], guard := none }) (v := ?_) rfl (by kernel_rfl) (by kernel_rfl) (by kernel_rfl) (fun _ _ _ h => h) (Or.inl ⟨by kernel_rfl, ?_⟩) hHeld ?_
    rotate_left
    · (intro w hSw; (try dsimp only at hSw); have e0 := cell_of_block ((hSw.block _ (heap_lt XS0.out)).trans XS0.out) 0; have e1 := cell_of_block ((hSw.block _ (heap_lt XS0.out)).trans XS0.out) 1; have e2 := cell_of_block ((hSw.block _ (heap_lt XS0.out)).trans XS0.out) 2; go_simp); try with_reducible rfl
    try simp only [Act.put, List.setIfInBounds_toArray, List.set_cons_zero, List.set_cons_succ]
    refine wpAnyH_take (i := 4) (oi := { dst := some 14, op := Op.load 3 (Operand.tmp 13), type := 3, pos := "drive.go:52", after := #[{ on := 3, ground := Ground.data }], guard := none }) (v := ?_) rfl (by kernel_rfl) (by kernel_rfl) (by kernel_rfl) (fun _ _ _ h => h) (Or.inl ⟨by kernel_rfl, ?_⟩) hHeld ?_
    rotate_left
    · (intro w hSw; (try dsimp only at hSw); have e0 := cell_of_block ((hSw.block _ (heap_lt XS0.out)).trans XS0.out) 0; have e1 := cell_of_block ((hSw.block _ (heap_lt XS0.out)).trans XS0.out) 1; have e2 := cell_of_block ((hSw.block _ (heap_lt XS0.out)).trans XS0.out) 2; go_simp); try with_reducible rfl
    try simp only [Act.put, List.setIfInBounds_toArray, List.set_cons_zero, List.set_cons_succ]
    refine wpAnyH_ready (rs := [2, 5]) (by kernel_rfl) (by simp) (AllReadyH.cons (o := { dst := some 12, op := Op.call { callee := Callee.value (Operand.func 20), args := #[], argTypes := #[] }, type := 55, pos := "drive.go:52", after := #[], guard := none }) rfl (fun K hK => ?_) (AllReadyH.cons (o := { dst := some 15, op := Op.makeSlice 57 (Operand.tmp 14) (Operand.tmp 14), type := 57, pos := "drive.go:52", after := #[{ on := 4, ground := Ground.data }, { on := 4, ground := Ground.data }], guard := none }) rfl (fun K hK => ?_) AllReadyH.nil))
    · have hOld := hide hHeld
      clear hHeld
      go_simp
      refine (HM.out _).mono ?_
      rintro e v2 ⟨rfl, hb⟩
      have BL2 := hide (BL0.out.trans (hb.mono BL0.out.size))
      clear hb
      (try go_wp2_with fail)
      refine hK.out _ _ (BL2.out) (fun hHeld => ?_)
      clear hK K hOld
      try simp only [Act.put, List.setIfInBounds_toArray, List.set_cons_zero, List.set_cons_succ]
      refine wpAnyH_ready (rs := [5]) (by kernel_rfl) (by simp) (AllReadyH.cons (o := { dst := some 15, op := Op.makeSlice 57 (Operand.tmp 14) (Operand.tmp 14), type := 57, pos := "drive.go:52", after := #[{ on := 4, ground := Ground.data }, { on := 4, ground := Ground.data }], guard := none }) rfl (fun K hK => ?_) AllReadyH.nil)
      have hOld := hide hHeld
      clear hHeld
      go_simp
      try simp only [hmk, Result.andThen]
      obtain ⟨ob, hob⟩ : ∃ ob, ob = Obj.cells ((List.replicate S.L.length ()).flatMap fun _ => [Value.bool false, Value.int .i64 0]).toArray 74 := ⟨_, rfl⟩
      have hal := (Below.refl v2.heap.size v2).alloc (Nat.le_refl _) ob
      have BL5 := hide (BL2.out.trans (hal.mono BL2.out.size))
      have RQ5 := hide (heap_new v2 ob)
      have HQB := hide (show v0.heap.size ≤ v2.heap.size from BL2.out.size)
      clear hal
      try rw [← hob]
      generalize v2.alloc ob = v5 at *
      rw [hob] at RQ5
      clear hob
      (try go_wp2_with fail)
      refine hK.out _ _ (BL5.out) (fun hHeld => ?_)
      clear hK K hOld
      try simp only [Act.put, List.setIfInBounds_toArray, List.set_cons_zero, List.set_cons_succ]
      refine wpAnyH_ready (rs := [6]) (by kernel_rfl) (by simp) (AllReadyH.cons (o := { dst := some 16, op := Op.build 59 #[(0, Operand.tmp 10), (1, Operand.tmp 11), (2, Operand.tmp 12), (3, Operand.tmp 15)], type := 59, pos := "drive.go:52", after := #[{ on := 0, ground := Ground.data }, { on := 1, ground := Ground.data }, { on := 2, ground := Ground.data }, { on := 5, ground := Ground.data }], guard := none }) rfl (fun K hK => ?_) AllReadyH.nil)
      have hOld := hide hHeld
      clear hHeld
      refine wp_build4 59 (.tmp 10) (.tmp 11) (.tmp 12) (.tmp 15) 0 1 2 3 rfl (.pointer (some ⟨p, 0, none⟩)) (.agg #[.int .i64 (S.L.length : Int), .int .i64 (S.pgs : Int), .int .i64 (S.size : Int)]) (.agg (tabC 256)) (.slice (some ⟨v2.heap.size, 0, none⟩) S.L.length S.L.length) rfl rfl rfl rfl (.agg (drvC p (S.L.length : Int) (S.pgs : Int) (S.size : Int) (v2.heap.size) S.L.length)) (drv_build _ _ _ _ _ _ _) ?_
      refine hK.out _ _ (hOld.out) (fun hHeld => ?_)
      clear hK K hOld
      try simp only [Act.put, List.setIfInBounds_toArray, List.set_cons_zero, List.set_cons_succ]
      refine wpAnyH_ready (rs := [7]) (by kernel_rfl) (by simp) (AllReadyH.cons (o := { dst := some 17, op := Op.box 59 (Operand.tmp 16), type := 22, pos := "drive.go:52", after := #[{ on := 6, ground := Ground.data }], guard := none }) rfl (fun K hK => ?_) AllReadyH.nil)
      have hOld := hide hHeld
      clear hHeld
      refine wp_boxV 59 (.tmp 16) rfl (.agg (drvC p (S.L.length : Int) (S.pgs : Int) (S.size : Int) (v2.heap.size) S.L.length)) rfl (.pointer (some ⟨v5.heap.size, 0, none⟩)) (v5.alloc (.cells (drvC p (S.L.length : Int) (S.pgs : Int) (S.size : Int) (v2.heap.size) S.L.length) 59)) (drv_box _ _ _ _ _ _ _) ?_
      have DN := hide (drive_new (HN.out.below (HBW.out.trans (BL5.out.mono HBW.out.size))) rfl RQ5.out (made_size S.L.length) (made_at S.L.length))
      have BL7 := hide (BL5.out.alloc BL5.out.size (.cells (drvC p (S.L.length : Int) (S.pgs : Int) (S.size : Int) (v2.heap.size) S.L.length) 59))
      have HDB := hide (show v0.heap.size ≤ v5.heap.size from BL5.out.size)
      generalize v5.alloc (.cells (drvC p (S.L.length : Int) (S.pgs : Int) (S.size : Int) (v2.heap.size) S.L.length) 59) = v7 at *
      refine hK.out _ _ (BL7.out) (fun hHeld => ?_)
      clear hK K hOld
      try simp only [Act.put, List.setIfInBounds_toArray, List.set_cons_zero, List.set_cons_succ]
      refine wpAnyH_take (i := 8) (oi := { dst := some 5, op := Op.assign (Operand.tmp 17), type := 22, pos := "drive.go:52", after := #[{ on := 7, ground := Ground.data }, { on := 2, ground := Ground.chain }, { on := 0, ground := Ground.phase }, { on := 1, ground := Ground.phase }, { on := 2, ground := Ground.phase }, { on := 3, ground := Ground.phase }, { on := 4, ground := Ground.phase }, { on := 5, ground := Ground.phase }, { on := 6, ground := Ground.phase }, { on := 7, ground := Ground.phase }], guard := none }) (v := ?_) rfl (by kernel_rfl) (by kernel_rfl) (by kernel_rfl) (fun _ _ _ h => h) (Or.inl ⟨by kernel_rfl, ?_⟩) hHeld ?_
      rotate_left
      · (intro w hSw; (try dsimp only at hSw); have e0 := cell_of_block ((hSw.block _ (heap_lt XS0.out)).trans XS0.out) 0; have e1 := cell_of_block ((hSw.block _ (heap_lt XS0.out)).trans XS0.out) 1; have e2 := cell_of_block ((hSw.block _ (heap_lt XS0.out)).trans XS0.out) 2; go_simp); try with_reducible rfl
      try simp only [Act.put, List.setIfInBounds_toArray, List.set_cons_zero, List.set_cons_succ]
      refine wpAnyH_done (by kernel_rfl) ?_ _
      clear hHeld
      go_wp2_with fail
      go_meet
      exact ⟨_, _, rfl, DN.out, HBW.out.trans (BL7.out.mono HBW.out.size), Nat.le_trans HBW.out.size HQB.out, Nat.le_trans HBW.out.size HDB.out⟩
    · have hOld := hide hHeld
      clear hHeld
      go_simp
      try simp only [hmk, Result.andThen]
      obtain ⟨ob, hob⟩ : ∃ ob, ob = Obj.cells ((List.replicate S.L.length ()).flatMap fun _ => [Value.bool false, Value.int .i64 0]).toArray 74 := ⟨_, rfl⟩
      have hal := (Below.refl v0.heap.size v0).alloc (Nat.le_refl _) ob
      have BL5 := hide (BL0.out.trans (hal.mono BL0.out.size))
      have RQ5 := hide (heap_new v0 ob)
      have HQB := hide (show v0.heap.size ≤ v0.heap.size from BL0.out.size)
      clear hal
      try rw [← hob]
      generalize v0.alloc ob = v5 at *
      rw [hob] at RQ5
      clear hob
      (try go_wp2_with fail)
      refine hK.out _ _ (BL5.out) (fun hHeld => ?_)
      clear hK K hOld
      try simp only [Act.put, List.setIfInBounds_toArray, List.set_cons_zero, List.set_cons_succ]
      refine wpAnyH_ready (rs := [2]) (by kernel_rfl) (by simp) (AllReadyH.cons (o := { dst := some 12, op := Op.call { callee := Callee.value (Operand.func 20), args := #[], argTypes := #[] }, type := 55, pos := "drive.go:52", after := #[], guard := none }) rfl (fun K hK => ?_) AllReadyH.nil)
      have hOld := hide hHeld
      clear hHeld
      go_simp
      refine (HM.out _).mono ?_
      rintro e v2 ⟨rfl, hb⟩
      have BL2 := hide (BL5.out.trans (hb.mono BL5.out.size))
      have RQ2 := hide ((hb.block _ (heap_lt RQ5.out)).trans RQ5.out)
      clear hb
      (try go_wp2_with fail)
      refine hK.out _ _ (BL2.out) (fun hHeld => ?_)
      clear hK K hOld
      try simp only [Act.put, List.setIfInBounds_toArray, List.set_cons_zero, List.set_cons_succ]
      refine wpAnyH_ready (rs := [6]) (by kernel_rfl) (by simp) (AllReadyH.cons (o := { dst := some 16, op := Op.build 59 #[(0, Operand.tmp 10), (1, Operand.tmp 11), (2, Operand.tmp 12), (3, Operand.tmp 15)], type := 59, pos := "drive.go:52", after := #[{ on := 0, ground := Ground.data }, { on := 1, ground := Ground.data }, { on := 2, ground := Ground.data }, { on := 5, ground := Ground.data }], guard := none }) rfl (fun K hK => ?_) AllReadyH.nil)
      have hOld := hide hHeld
      clear hHeld
      refine wp_build4 59 (.tmp 10) (.tmp 11) (.tmp 12) (.tmp 15) 0 1 2 3 rfl (.pointer (some ⟨p, 0, none⟩)) (.agg #[.int .i64 (S.L.length : Int), .int .i64 (S.pgs : Int), .int .i64 (S.size : Int)]) (.agg (tabC 256)) (.slice (some ⟨v0.heap.size, 0, none⟩) S.L.length S.L.length) rfl rfl rfl rfl (.agg (drvC p (S.L.length : Int) (S.pgs : Int) (S.size : Int) (v0.heap.size) S.L.length)) (drv_build _ _ _ _ _ _ _) ?_
      refine hK.out _ _ (hOld.out) (fun hHeld => ?_)
      clear hK K hOld
      try simp only [Act.put, List.setIfInBounds_toArray, List.set_cons_zero, List.set_cons_succ]
      refine wpAnyH_ready (rs := [7]) (by kernel_rfl) (by simp) (AllReadyH.cons (o := { dst := some 17, op := Op.box 59 (Operand.tmp 16), type := 22, pos := "drive.go:52", after := #[{ on := 6, ground := Ground.data }], guard := none }) rfl (fun K hK => ?_) AllReadyH.nil)
      have hOld := hide hHeld
      clear hHeld
      refine wp_boxV 59 (.tmp 16) rfl (.agg (drvC p (S.L.length : Int) (S.pgs : Int) (S.size : Int) (v0.heap.size) S.L.length)) rfl (.pointer (some ⟨v2.heap.size, 0, none⟩)) (v2.alloc (.cells (drvC p (S.L.length : Int) (S.pgs : Int) (S.size : Int) (v0.heap.size) S.L.length) 59)) (drv_box _ _ _ _ _ _ _) ?_
      have DN := hide (drive_new (HN.out.below (HBW.out.trans (BL2.out.mono HBW.out.size))) rfl RQ2.out (made_size S.L.length) (made_at S.L.length))
      have BL7 := hide (BL2.out.alloc BL2.out.size (.cells (drvC p (S.L.length : Int) (S.pgs : Int) (S.size : Int) (v0.heap.size) S.L.length) 59))
      have HDB := hide (show v0.heap.size ≤ v2.heap.size from BL2.out.size)
      generalize v2.alloc (.cells (drvC p (S.L.length : Int) (S.pgs : Int) (S.size : Int) (v0.heap.size) S.L.length) 59) = v7 at *
      refine hK.out _ _ (BL7.out) (fun hHeld => ?_)
      clear hK K hOld
      try simp only [Act.put, List.setIfInBounds_toArray, List.set_cons_zero, List.set_cons_succ]
      refine wpAnyH_take (i := 8) (oi := { dst := some 5, op := Op.assign (Operand.tmp 17), type := 22, pos := "drive.go:52", after := #[{ on := 7, ground := Ground.data }, { on := 2, ground := Ground.chain }, { on := 0, ground := Ground.phase }, { on := 1, ground := Ground.phase }, { on := 2, ground := Ground.phase }, { on := 3, ground := Ground.phase }, { on := 4, ground := Ground.phase }, { on := 5, ground := Ground.phase }, { on := 6, ground := Ground.phase }, { on := 7, ground := Ground.phase }], guard := none }) (v := ?_) rfl (by kernel_rfl) (by kernel_rfl) (by kernel_rfl) (fun _ _ _ h => h) (Or.inl ⟨by kernel_rfl, ?_⟩) hHeld ?_
      rotate_left
      · (intro w hSw; (try dsimp only at hSw); have e0 := cell_of_block ((hSw.block _ (heap_lt XS0.out)).trans XS0.out) 0; have e1 := cell_of_block ((hSw.block _ (heap_lt XS0.out)).trans XS0.out) 1; have e2 := cell_of_block ((hSw.block _ (heap_lt XS0.out)).trans XS0.out) 2; go_simp); try with_reducible rfl
      try simp only [Act.put, List.setIfInBounds_toArray, List.set_cons_zero, List.set_cons_succ]
      refine wpAnyH_done (by kernel_rfl) ?_ _
      clear hHeld
      go_wp2_with fail
      go_meet
      exact ⟨_, _, rfl, DN.out, HBW.out.trans (BL7.out.mono HBW.out.size), Nat.le_trans HBW.out.size HQB.out, Nat.le_trans HBW.out.size HDB.out⟩
  case rest =>
    obtain ⟨d, b, rfl, hd, hbl, h1, h2⟩ := hcut
    have DN := hide hd
    have BL := hide hbl
    have HLE := hide (And.intro h1 h2)
    clear hd hbl h1 h2
    go_wp2_with fail
    refine (HF.out d b _ DN.out).mono ?_
    rintro e w3 ⟨rfl, hd, ho⟩
    rw [fgK_zero] at hd
    have BL3 := hide (ho.below BL.out HLE.out.1 BL.out.size)
    clear ho
    go_wp2_with fail
    go_ret2
    exact ⟨d, b, rfl, hd, BL3.out, HLE.out⟩
end
end Go.Proofs.Ytoneolpjeonpaaa

namespace Go.Proofs.Ytoneolpjeonpaaa
set_option linter.unusedSimpArgs false
set_option linter.unusedVariables false
open Go.RowKit Go.WideShapes Go.ChangeShapes Go.ChangeAt Go.Deep
def dk1 : List KnM := List.replicate 4 ⟨false, -1⟩
def dk2 : List KnM := dk1.set 1 ⟨false, 0⟩
def dk3 : List KnM := dk2.set 1 ⟨false, 1⟩
set_option maxRecDepth 100000 in
set_option maxHeartbeats 1000000 in
theorem wakes8 (w : World) : Calls Try.prog 9 #[] w fun e w' => e = .returned (.bool true) ∧ Below w.heap.size w w' := by
  have HNEW := hide (fun W => new_go 4 2 32 (by decide) [] (.slice none 0 0) W (Or.inl ⟨rfl, rfl⟩) (by decide))
  have HD := hide (fun p q B G W (hW : NandAt W p q B G dw1) => dnew_go W hW)
  have HFU := hide (fun W => full8_any ⟨#[97]⟩ (by decide) 32 (by decide) W)
  have hfz : (fullB ⟨#[97]⟩ 32).size = 32 := fullB_size _ _
  obtain ⟨td, htd⟩ : ∃ td : List UInt8, td = (fullB ⟨#[97]⟩ 32).data.toList := ⟨_, rfl⟩
  have htb : fullB ⟨#[97]⟩ 32 = bs td := by rw [htd]; rfl
  have hl : td.length = 32 := by rw [htb] at hfz; exact hfz
  rw [htb] at HFU
  clear htd hfz htb
  have hT : TagOk 1 0 0 1 := by unfold TagOk; decide
  have HP1 := hide (fun d b p q B G W (hW : DriveAt W d b p q B G dw1 dk1) => dprog_order 0 1 (by decide) (by decide) (by decide +kernel) 1 0 9 0 1 hT (bs td) (show (bs td).size = dw1.size from hl.trans (by decide +kernel)) (by decide +kernel) W hW)
  have HE := hide (fun d b p q B G B0 W (hB : B0 ≤ B ∧ B0 ≤ b) (hW : DriveAt W d b p q B G dw1 dk1) => derase_ok B0 1 (by decide) hB (by decide) dw_ok1 dw_few dw_er dw_dims W hW)
  have hfl : (bs (frameL 1 0 9 0 1 td)).size = 32 := frameL_length _ _ _ _ _ _
  have hpr := dw_pr (bs td) (bs (frameL 1 0 9 0 1 td)) hl hfl
  have HP2 := hide (fun d b p q B G B0 W (hB : B0 ≤ B ∧ B0 ≤ b) (hW : DriveAt W d b p q B G dw2 dk2) => dprog_ok B0 1 0 (by decide) hB (by decide) (by decide +kernel) (by decide +kernel) 1 0 9 0 1 hT (by decide) (by decide) td (by rw [hl]; decide +kernel) (by decide +kernel) dw_ok2 (congrArg Prod.snd hpr) (by rw [show (progT dw2 ((1 : Nat) : Int) ((0 : Nat) : Int) (bs td) (bs (frameL 1 0 9 0 1 td))) = _ from hpr]; exact dw_dims2 _ _) W hW)
  rw [show (progT dw2 ((1 : Nat) : Int) ((0 : Nat) : Int) (bs td) (bs (frameL 1 0 9 0 1 td))) = _ from hpr] at HP2
  have HR := hide (fun d b p q B G W (hW : DriveAt W d b p q B G (progS dw2 1 0 (bs td) (bs (frameL 1 0 9 0 1 td))) dk3) => dread_tag 1 0 1 0 9 0 1 hT (by decide) (by decide) td (by omega) (dw_ask _ _) (dw_read _ _) W hW)
  have HX := hide (fun d b p q B G W (hW : DriveAt W d b p q B G (progS dw2 1 0 (bs td) (bs (frameL 1 0 9 0 1 td))) dk3) => dnext_yes 1 (by decide) W hW)
  rw [show nextK (progS dw2 1 0 (bs td) (bs (frameL 1 0 9 0 1 td))) dk3 1 = 1 from rfl] at HX
  have HSI := hide (fun p q B G W (hW : NandAt W p q B G (progS dw2 1 0 (bs td) (bs (frameL 1 0 9 0 1 td)))) => sins_any p q B G _ W hW)
  rw [dw_sins] at HSI
  unfold pageC at HR
  clear hpr hfl hT hl
  generalize progS dw2 1 0 (bs td) (bs (frameL 1 0 9 0 1 td)) = S3 at *
  generalize bs td = t at *
  go_enter Try.func9, Try.ntmps9
  go_wp2_with fail
  refine (HNEW.out _).mono ?_
  rintro e w1 ⟨p, q, G, rfl, hn, hb⟩
  have HN := hide (show NandAt w1 p q w.heap.size G dw1 from hn)
  have hb := hide hb
  clear hn HNEW
  go_wp2_with fail
  refine (HD.out _ _ _ _ _ HN.out).mono ?_
  rintro e w2 ⟨d, b, rfl, hd, hb2, h1, h2⟩
  have HBB := hide (show w.heap.size ≤ w.heap.size ∧ w.heap.size ≤ b from ⟨Nat.le_refl _, Nat.le_trans hb.out.size h1⟩)
  have T2 := hide (TurnD.of_below (hb.out.trans (hb2.mono hb.out.size)) (Nat.le_refl _))
  have H2 := hide (show DriveAt w2 d b p q w.heap.size G dw1 dk1 from hd)
  clear hd hb hb2 h1 h2 HD HN
  go_upto_region 4 with (fail)
  have hal := (Below.refl w2.heap.size w2).alloc (Nat.le_refl _) (.cells #[.int .u8 1, .int .i64 0, .int .u64 9, .int .i64 0, .int .i64 1] 31)
  have X0 := hide (heap_new w2 (.cells #[.int .u8 1, .int .i64 0, .int .u64 9, .int .i64 0, .int .i64 1] 31))
  have H0 := hide (H2.out.below hal).drew
  have T0 := hide ((T2.out.trans (TurnD.of_below hal T2.out.1.size)).drew)
  have T0b := hide (Nat.le_refl w.heap.size)
  clear hal H2 T2
  generalize w2.alloc (.cells #[.int .u8 1, .int .i64 0, .int .u64 9, .int .i64 0, .int .i64 1] 31) = w3 at *
  generalize w2.heap.size = tb at *
  have X0 := hide (show w3.drew.heap[tb]? = _ from X0.out)
  refine wp_region_held_drew (S := (fun W => W.heap[tb]? = some (.cells #[.int .u8 1, .int .i64 0, .int .u64 9, .int .i64 0, .int .i64 1] 31 (0, 0)))) (by kernel_rfl) (X0.out) (fun hHeld => ?_)
  generalize w3.drew = v0 at *
  refine wpAnyH_take (i := 0) (oi := { dst := some 25, op := Op.move (Operand.tmp 3), type := 22, pos := "law.go:45", after := #[], guard := none }) (v := ?_) rfl (by kernel_rfl) (by kernel_rfl) (by kernel_rfl) (fun _ _ _ h => h) (Or.inl ⟨by kernel_rfl, ?_⟩) hHeld ?_
  rotate_left
  · (intro w hSw; (try dsimp only at hSw); have e0 := cell_of_block hSw 0; have e1 := cell_of_block hSw 1; have e2 := cell_of_block hSw 2; have e3 := cell_of_block hSw 3; have e4 := cell_of_block hSw 4; go_simp); try with_reducible rfl
  try simp only [Act.put, List.setIfInBounds_toArray, List.set_cons_zero, List.set_cons_succ]
  refine wpAnyH_take (i := 1) (oi := { dst := some 26, op := Op.load 31 (Operand.tmp 5), type := 31, pos := "law.go:45", after := #[], guard := none }) (v := ?_) rfl (by kernel_rfl) (by kernel_rfl) (by kernel_rfl) (fun _ _ _ h => h) (Or.inl ⟨by kernel_rfl, ?_⟩) hHeld ?_
  rotate_left
  · (intro w hSw; (try dsimp only at hSw); have e0 := cell_of_block hSw 0; have e1 := cell_of_block hSw 1; have e2 := cell_of_block hSw 2; have e3 := cell_of_block hSw 3; have e4 := cell_of_block hSw 4; go_simp); try with_reducible rfl
  try simp only [Act.put, List.setIfInBounds_toArray, List.set_cons_zero, List.set_cons_succ]
  refine wpAnyH_ready (rs := [2]) (by kernel_rfl) (by simp) (AllReadyH.cons (o := { dst := some 27, op := Op.call { callee := Callee.value (Operand.func 15), args := #[Operand.const (Value.string { data := #[97] }), Operand.const (Value.int IntKind.i64 32)], argTypes := #[9, 3] }, type := 9, pos := "law.go:45", after := #[], guard := none }) rfl (fun K hK => ?_) AllReadyH.nil)
  have hOld := hide hHeld
  clear hHeld
  go_simp
  refine (HFU.out _).mono ?_
  rintro e v2 ⟨rfl, hb⟩
  have H2 := hide (H0.out.below hb)
  have X2 := hide ((hb.block _ (heap_lt X0.out)).trans X0.out)
  have T2 := hide (T0.out.trans (TurnD.of_below hb (Nat.le_trans T0b.out T0.out.1.size)))
  clear hb
  (try go_wp2_with fail)
  refine hK.out _ _ (X2.out) (fun hHeld => ?_)
  clear hK K hOld
  try simp only [Act.put, List.setIfInBounds_toArray, List.set_cons_zero, List.set_cons_succ]
  refine wpAnyH_ready (rs := [3]) (by kernel_rfl) (by simp) (AllReadyH.cons (o := { dst := some 28, op := Op.call { callee := Callee.value (Operand.func 8), args := #[Operand.tmp 25, Operand.const (Value.int IntKind.i64 1), Operand.tmp 26, Operand.tmp 27], argTypes := #[22, 3, 31, 9] }, type := 36, pos := "law.go:45", after := #[{ on := 0, ground := Ground.data }, { on := 1, ground := Ground.data }, { on := 2, ground := Ground.data }, { on := 2, ground := Ground.chain }], guard := none }) rfl (fun K hK => ?_) AllReadyH.nil)
  have hOld := hide hHeld
  clear hHeld
  go_simp
  refine (HP1.out _ _ _ _ _ _ _ H2.out).mono ?_
  rintro e v3 ⟨rfl, hb⟩
  have H3 := hide (H2.out.below hb)
  have X3 := hide ((hb.block _ (heap_lt X2.out)).trans X2.out)
  have T3 := hide (T2.out.trans (TurnD.of_below hb (Nat.le_trans T0b.out T2.out.1.size)))
  clear hb
  (try go_wp2_with fail)
  refine hK.out _ _ (X3.out) (fun hHeld => ?_)
  clear hK K hOld
  try simp only [Act.put, List.setIfInBounds_toArray, List.set_cons_zero, List.set_cons_succ]
  refine wpAnyH_take (i := 4) (oi := { dst := some 24, op := Op.move (Operand.tmp 28), type := 36, pos := "law.go:45", after := #[{ on := 3, ground := Ground.data }], guard := none }) (v := ?_) rfl (by kernel_rfl) (by kernel_rfl) (by kernel_rfl) (fun _ _ _ h => h) (Or.inl ⟨by kernel_rfl, ?_⟩) hHeld ?_
  rotate_left
  · (intro w hSw; (try dsimp only at hSw); have e0 := cell_of_block hSw 0; have e1 := cell_of_block hSw 1; have e2 := cell_of_block hSw 2; have e3 := cell_of_block hSw 3; have e4 := cell_of_block hSw 4; go_simp); try with_reducible rfl
  try simp only [Act.put, List.setIfInBounds_toArray, List.set_cons_zero, List.set_cons_succ]
  refine wpAnyH_take (i := 5) (oi := { dst := some 29, op := Op.extract (Operand.tmp 24) 0, type := 3, pos := "law.go:45", after := #[{ on := 4, ground := Ground.data }], guard := none }) (v := ?_) rfl (by kernel_rfl) (by kernel_rfl) (by kernel_rfl) (fun _ _ _ h => h) (Or.inl ⟨by kernel_rfl, ?_⟩) hHeld ?_
  rotate_left
  · (intro w hSw; (try dsimp only at hSw); have e0 := cell_of_block hSw 0; have e1 := cell_of_block hSw 1; have e2 := cell_of_block hSw 2; have e3 := cell_of_block hSw 3; have e4 := cell_of_block hSw 4; go_simp); try with_reducible rfl
  try simp only [Act.put, List.setIfInBounds_toArray, List.set_cons_zero, List.set_cons_succ]
  refine wpAnyH_take (i := 6) (oi := { dst := some 30, op := Op.extract (Operand.tmp 24) 1, type := 23, pos := "law.go:45", after := #[{ on := 4, ground := Ground.data }, { on := 7, ground := Ground.gcOnly Departure.lateStores }], guard := none }) (v := ?_) rfl (by kernel_rfl) (by kernel_rfl) (by kernel_rfl) (fun _ _ _ h => h) (Or.inl ⟨by kernel_rfl, ?_⟩) hHeld ?_
  rotate_left
  · (intro w hSw; (try dsimp only at hSw); have e0 := cell_of_block hSw 0; have e1 := cell_of_block hSw 1; have e2 := cell_of_block hSw 2; have e3 := cell_of_block hSw 3; have e4 := cell_of_block hSw 4; go_simp); try with_reducible rfl
  try simp only [Act.put, List.setIfInBounds_toArray, List.set_cons_zero, List.set_cons_succ]
  refine wpAnyH_take (i := 7) (oi := { dst := some 6, op := Op.assign (Operand.tmp 29), type := 3, pos := "law.go:45", after := #[{ on := 5, ground := Ground.data }, { on := 3, ground := Ground.chain }, { on := 0, ground := Ground.phase }, { on := 1, ground := Ground.phase }, { on := 2, ground := Ground.phase }, { on := 3, ground := Ground.phase }, { on := 4, ground := Ground.phase }, { on := 5, ground := Ground.phase }, { on := 6, ground := Ground.textOnly Departure.lateStores }], guard := none }) (v := ?_) rfl (by kernel_rfl) (by kernel_rfl) (by kernel_rfl) (fun _ _ _ h => h) (Or.inl ⟨by kernel_rfl, ?_⟩) hHeld ?_
  rotate_left
  · (intro w hSw; (try dsimp only at hSw); have e0 := cell_of_block hSw 0; have e1 := cell_of_block hSw 1; have e2 := cell_of_block hSw 2; have e3 := cell_of_block hSw 3; have e4 := cell_of_block hSw 4; go_simp); try with_reducible rfl
  try simp only [Act.put, List.setIfInBounds_toArray, List.set_cons_zero, List.set_cons_succ]
  refine wpAnyH_take (i := 8) (oi := { dst := some 7, op := Op.assign (Operand.tmp 30), type := 23, pos := "law.go:45", after := #[{ on := 6, ground := Ground.data }, { on := 7, ground := Ground.chain }, { on := 0, ground := Ground.phase }, { on := 1, ground := Ground.phase }, { on := 2, ground := Ground.phase }, { on := 3, ground := Ground.phase }, { on := 4, ground := Ground.phase }, { on := 5, ground := Ground.phase }, { on := 6, ground := Ground.phase }, { on := 7, ground := Ground.phase }], guard := none }) (v := ?_) rfl (by kernel_rfl) (by kernel_rfl) (by kernel_rfl) (fun _ _ _ h => h) (Or.inl ⟨by kernel_rfl, ?_⟩) hHeld ?_
  rotate_left
  · (intro w hSw; (try dsimp only at hSw); have e0 := cell_of_block hSw 0; have e1 := cell_of_block hSw 1; have e2 := cell_of_block hSw 2; have e3 := cell_of_block hSw 3; have e4 := cell_of_block hSw 4; go_simp); try with_reducible rfl
  try simp only [Act.put, List.setIfInBounds_toArray, List.set_cons_zero, List.set_cons_succ]
  refine wpAnyH_done (by kernel_rfl) ?_ _
  clear hHeld H0 X0 T0 H2 X2 T2
  go_wp2_with fail
  refine (HE.out _ _ _ _ _ _ w.heap.size _ HBB.out H3.out).mono ?_
  rintro e w5 ⟨rfl, hd, ht⟩
  have H0 := hide (show DriveAt w5.drew d b p q w.heap.size G dw2 dk2 from hd.drew)
  have X0 := hide (show w5.drew.heap[tb]? = _ from ht.keep X3.out (by decide))
  have T0 := hide (T3.out.trans ht).drew
  clear hd ht H3 X3 T3 HP1 HE
  go_upto_region 6 with (fail)
  refine wp_region_held_drew (S := (fun W => W.heap[tb]? = some (.cells #[.int .u8 1, .int .i64 0, .int .u64 9, .int .i64 0, .int .i64 1] 31 (0, 0)))) (by kernel_rfl) (X0.out) (fun hHeld => ?_)
  generalize w5.drew = v0 at *
  refine wpAnyH_take (i := 0) (oi := { dst := some 34, op := Op.move (Operand.tmp 3), type := 22, pos := "law.go:47", after := #[], guard := none }) (v := ?_) rfl (by kernel_rfl) (by kernel_rfl) (by kernel_rfl) (fun _ _ _ h => h) (Or.inl ⟨by kernel_rfl, ?_⟩) hHeld ?_
  rotate_left
  · (intro w hSw; (try dsimp only at hSw); have e0 := cell_of_block hSw 0; have e1 := cell_of_block hSw 1; have e2 := cell_of_block hSw 2; have e3 := cell_of_block hSw 3; have e4 := cell_of_block hSw 4; go_simp); try with_reducible rfl
  try simp only [Act.put, List.setIfInBounds_toArray, List.set_cons_zero, List.set_cons_succ]
  refine wpAnyH_take (i := 1) (oi := { dst := some 35, op := Op.load 31 (Operand.tmp 5), type := 31, pos := "law.go:47", after := #[], guard := none }) (v := ?_) rfl (by kernel_rfl) (by kernel_rfl) (by kernel_rfl) (fun _ _ _ h => h) (Or.inl ⟨by kernel_rfl, ?_⟩) hHeld ?_
  rotate_left
  · (intro w hSw; (try dsimp only at hSw); have e0 := cell_of_block hSw 0; have e1 := cell_of_block hSw 1; have e2 := cell_of_block hSw 2; have e3 := cell_of_block hSw 3; have e4 := cell_of_block hSw 4; go_simp); try with_reducible rfl
  try simp only [Act.put, List.setIfInBounds_toArray, List.set_cons_zero, List.set_cons_succ]
  refine wpAnyH_ready (rs := [2]) (by kernel_rfl) (by simp) (AllReadyH.cons (o := { dst := some 36, op := Op.call { callee := Callee.value (Operand.func 15), args := #[Operand.const (Value.string { data := #[97] }), Operand.const (Value.int IntKind.i64 32)], argTypes := #[9, 3] }, type := 9, pos := "law.go:47", after := #[], guard := none }) rfl (fun K hK => ?_) AllReadyH.nil)
  have hOld := hide hHeld
  clear hHeld
  go_simp
  refine (HFU.out _).mono ?_
  rintro e v2 ⟨rfl, hb⟩
  have H2 := hide (H0.out.below hb)
  have X2 := hide ((hb.block _ (heap_lt X0.out)).trans X0.out)
  have T2 := hide (T0.out.trans (TurnD.of_below hb (Nat.le_trans T0b.out T0.out.1.size)))
  clear hb
  (try go_wp2_with fail)
  refine hK.out _ _ (X2.out) (fun hHeld => ?_)
  clear hK K hOld
  try simp only [Act.put, List.setIfInBounds_toArray, List.set_cons_zero, List.set_cons_succ]
  refine wpAnyH_ready (rs := [3]) (by kernel_rfl) (by simp) (AllReadyH.cons (o := { dst := some 37, op := Op.call { callee := Callee.value (Operand.func 8), args := #[Operand.tmp 34, Operand.const (Value.int IntKind.i64 1), Operand.tmp 35, Operand.tmp 36], argTypes := #[22, 3, 31, 9] }, type := 36, pos := "law.go:47", after := #[{ on := 0, ground := Ground.data }, { on := 1, ground := Ground.data }, { on := 2, ground := Ground.data }, { on := 2, ground := Ground.chain }], guard := none }) rfl (fun K hK => ?_) AllReadyH.nil)
  have hOld := hide hHeld
  clear hHeld
  go_simp
  refine (HP2.out _ _ _ _ _ _ w.heap.size _ HBB.out H2.out).mono ?_
  rintro e v3 ⟨rfl, hd, ht⟩
  have H3 := hide hd
  have X3 := hide (ht.keep X2.out (by decide))
  have T3 := hide (T2.out.trans ht)
  clear hd ht
  (try go_wp2_with fail)
  refine hK.out _ _ (X3.out) (fun hHeld => ?_)
  clear hK K hOld
  try simp only [Act.put, List.setIfInBounds_toArray, List.set_cons_zero, List.set_cons_succ]
  refine wpAnyH_take (i := 4) (oi := { dst := some 33, op := Op.move (Operand.tmp 37), type := 36, pos := "law.go:47", after := #[{ on := 3, ground := Ground.data }], guard := none }) (v := ?_) rfl (by kernel_rfl) (by kernel_rfl) (by kernel_rfl) (fun _ _ _ h => h) (Or.inl ⟨by kernel_rfl, ?_⟩) hHeld ?_
  rotate_left
  · (intro w hSw; (try dsimp only at hSw); have e0 := cell_of_block hSw 0; have e1 := cell_of_block hSw 1; have e2 := cell_of_block hSw 2; have e3 := cell_of_block hSw 3; have e4 := cell_of_block hSw 4; go_simp); try with_reducible rfl
  try simp only [Act.put, List.setIfInBounds_toArray, List.set_cons_zero, List.set_cons_succ]
  refine wpAnyH_take (i := 5) (oi := { dst := some 38, op := Op.extract (Operand.tmp 33) 0, type := 3, pos := "law.go:47", after := #[{ on := 4, ground := Ground.data }], guard := none }) (v := ?_) rfl (by kernel_rfl) (by kernel_rfl) (by kernel_rfl) (fun _ _ _ h => h) (Or.inl ⟨by kernel_rfl, ?_⟩) hHeld ?_
  rotate_left
  · (intro w hSw; (try dsimp only at hSw); have e0 := cell_of_block hSw 0; have e1 := cell_of_block hSw 1; have e2 := cell_of_block hSw 2; have e3 := cell_of_block hSw 3; have e4 := cell_of_block hSw 4; go_simp); try with_reducible rfl
  try simp only [Act.put, List.setIfInBounds_toArray, List.set_cons_zero, List.set_cons_succ]
  refine wpAnyH_take (i := 6) (oi := { dst := some 39, op := Op.extract (Operand.tmp 33) 1, type := 23, pos := "law.go:47", after := #[{ on := 4, ground := Ground.data }, { on := 7, ground := Ground.gcOnly Departure.lateStores }], guard := none }) (v := ?_) rfl (by kernel_rfl) (by kernel_rfl) (by kernel_rfl) (fun _ _ _ h => h) (Or.inl ⟨by kernel_rfl, ?_⟩) hHeld ?_
  rotate_left
  · (intro w hSw; (try dsimp only at hSw); have e0 := cell_of_block hSw 0; have e1 := cell_of_block hSw 1; have e2 := cell_of_block hSw 2; have e3 := cell_of_block hSw 3; have e4 := cell_of_block hSw 4; go_simp); try with_reducible rfl
  try simp only [Act.put, List.setIfInBounds_toArray, List.set_cons_zero, List.set_cons_succ]
  refine wpAnyH_take (i := 7) (oi := { dst := some 9, op := Op.assign (Operand.tmp 38), type := 3, pos := "law.go:47", after := #[{ on := 5, ground := Ground.data }, { on := 3, ground := Ground.chain }, { on := 0, ground := Ground.phase }, { on := 1, ground := Ground.phase }, { on := 2, ground := Ground.phase }, { on := 3, ground := Ground.phase }, { on := 4, ground := Ground.phase }, { on := 5, ground := Ground.phase }, { on := 6, ground := Ground.textOnly Departure.lateStores }], guard := none }) (v := ?_) rfl (by kernel_rfl) (by kernel_rfl) (by kernel_rfl) (fun _ _ _ h => h) (Or.inl ⟨by kernel_rfl, ?_⟩) hHeld ?_
  rotate_left
  · (intro w hSw; (try dsimp only at hSw); have e0 := cell_of_block hSw 0; have e1 := cell_of_block hSw 1; have e2 := cell_of_block hSw 2; have e3 := cell_of_block hSw 3; have e4 := cell_of_block hSw 4; go_simp); try with_reducible rfl
  try simp only [Act.put, List.setIfInBounds_toArray, List.set_cons_zero, List.set_cons_succ]
  refine wpAnyH_take (i := 8) (oi := { dst := some 10, op := Op.assign (Operand.tmp 39), type := 23, pos := "law.go:47", after := #[{ on := 6, ground := Ground.data }, { on := 7, ground := Ground.chain }, { on := 0, ground := Ground.phase }, { on := 1, ground := Ground.phase }, { on := 2, ground := Ground.phase }, { on := 3, ground := Ground.phase }, { on := 4, ground := Ground.phase }, { on := 5, ground := Ground.phase }, { on := 6, ground := Ground.phase }, { on := 7, ground := Ground.phase }], guard := none }) (v := ?_) rfl (by kernel_rfl) (by kernel_rfl) (by kernel_rfl) (fun _ _ _ h => h) (Or.inl ⟨by kernel_rfl, ?_⟩) hHeld ?_
  rotate_left
  · (intro w hSw; (try dsimp only at hSw); have e0 := cell_of_block hSw 0; have e1 := cell_of_block hSw 1; have e2 := cell_of_block hSw 2; have e3 := cell_of_block hSw 3; have e4 := cell_of_block hSw 4; go_simp); try with_reducible rfl
  try simp only [Act.put, List.setIfInBounds_toArray, List.set_cons_zero, List.set_cons_succ]
  refine wpAnyH_done (by kernel_rfl) ?_ _
  clear hHeld H0 X0 T0 H2 X2 T2
  go_wp2_with fail
  refine (HR.out _ _ _ _ _ _ _ H3.out).mono ?_
  rintro e w7 ⟨rfl, hb⟩
  have hal := (Below.refl w7.heap.size w7).alloc (Nat.le_refl _) (.cells #[.int .i64 4, .int .u8 1, .int .i64 0, .int .u64 9, .int .i64 0, .int .i64 1, .string t] 33)
  have H7 := hide ((H3.out.below hb).below hal)
  have X7 := hide ((hal.block _ (heap_lt ((hb.block _ (heap_lt X3.out)).trans X3.out))).trans ((hb.block _ (heap_lt X3.out)).trans X3.out))
  have T7 := hide ((T3.out.trans (TurnD.of_below hb T3.out.1.size)).trans (TurnD.of_below hal (Nat.le_trans T3.out.1.size hb.size)))
  have Y7 := hide (heap_new w7 (.cells #[.int .i64 4, .int .u8 1, .int .i64 0, .int .u64 9, .int .i64 0, .int .i64 1, .string t] 33))
  clear hb hal H3 X3 T3 HR HP2
  go_upto_region 8 with (fail)
  generalize w7.alloc (.cells #[.int .i64 4, .int .u8 1, .int .i64 0, .int .u64 9, .int .i64 0, .int .i64 1, .string t] 33) = w8 at *
  generalize w7.heap.size = pb at *
  have e0 := cell_of_block X7.out 0
  have e1 := cell_of_block X7.out 1
  have e2 := cell_of_block X7.out 2
  have e3 := cell_of_block X7.out 3
  have e4 := cell_of_block X7.out 4
  have g0 := cell_of_block Y7.out 0
  have g1 := cell_of_block Y7.out 1
  have g2 := cell_of_block Y7.out 2
  have g3 := cell_of_block Y7.out 3
  have g4 := cell_of_block Y7.out 4
  have g5 := cell_of_block Y7.out 5
  clear X7 Y7 HFU hb HBB T0b X0
  go_wp2_with fail
  refine (HX.out _ _ _ _ _ _ _ H7.out).mono ?_
  rintro e w9 ⟨rfl, rfl⟩
  go_wp2_with fail
  refine (HSI.out _ _ _ _ _ H7.out.chip).mono ?_
  rintro e w9 ⟨rfl, rfl⟩
  go_wp2_with fail
  go_ret
  exact ⟨rfl, T7.out.1⟩
end Go.Proofs.Ytoneolpjeonpaaa

namespace Go.Proofs.Ytoneolpjeonpaaa
set_option linter.unusedSimpArgs false
set_option linter.unusedVariables false
open Go.RowKit Go.WideShapes Go.ChangeShapes Go.ChangeAt Go.Deep
theorem KeepsT.of_only {Ts : List TypeId} {w w' : World} {b : Nat} {c : Array Value} {t : TypeId} {fz : Nat × Nat} (h : Only b w w') (hb : w.heap[b]? = some (.cells c t fz)) (ht : t ∈ Ts) : KeepsT Ts w w' := fun k o hk hn => by
  have hne : k ≠ b := fun e => by
    subst e
    rw [hb] at hk
    exact hn _ _ _ (Option.some.inj hk).symm ht
  exact (h.block k (heap_lt hk) hne).trans hk
theorem TurnD.of_only {B0 : Nat} {w w' : World} {b : Nat} {c : Array Value} {fz : Nat × Nat} (h : Only b w w') (hb : w.heap[b]? = some (.cells c 74 fz)) (hB : B0 ≤ b) : TurnD B0 w w' :=
  ⟨h.below (Below.refl _ _) hB (Nat.le_trans hB (Nat.le_of_lt (heap_lt hb))), KeepsT.of_only h hb (by decide)⟩
def learnK (K : List KnM) (i : Nat) (e : Int) : List KnM := if e = 10 then K.set i ⟨true, -1⟩ else if e = 9 then fgK K K.length else K
theorem learnK_len (K : List KnM) (i : Nat) (e : Int) : (learnK K i e).length = K.length := by
  unfold learnK
  split
  · exact List.length_set
  · split
    · exact fgK_len _ _
    · rfl
section
variable {w w' : World} {d b p q B : Nat} {G : Nat → Nat} {S S' : ChipM} {K : List KnM}
set_option maxRecDepth 100000 in
theorem spoil_go (B0 k : Nat) (hk : k < K.length) (hB0 : B0 ≤ b) (w : World) (h : DriveAt w d b p q B G S K) :
    Calls Try.prog 23 #[.pointer (some ⟨b, k * 2, none⟩)] w (DriveIs d b p q B B0 G S (K.set k ⟨true, -1⟩) (.tuple #[]) w) := by
  obtain ⟨a0, a1, f0, f1⟩ := h.at k hk
  have h1 := h.know k hk 0 (by decide) (.bool true) ⟨true, (K.getD k kn0).next⟩ rfl
  have h2 := h1.know k (by rw [List.length_set]; exact hk) 1 (by decide) (.int .i64 (-1)) ⟨true, -1⟩ (by rw [getD_set_self _ _ _ _ hk]; rfl)
  rw [List.set_set] at h2
  obtain ⟨cs, hcs⟩ := h.base
  obtain ⟨cs1, hcs1⟩ := h1.base
  have T2 := hide (((TurnD.refl B0 w).know hcs hB0 (k * 2) (.bool true)).know hcs1 hB0 (k * 2 + 1) (.int .i64 (-1)))
  have H2 := hide h2
  clear h h1 h2 hcs hcs1
  generalize (K.getD k kn0).bad = xb at *
  generalize (K.getD k kn0).next = xn at *
  go_enter Try.func23, Try.ntmps23
  go_wp2_with fail
  go_end0
  exact ⟨rfl, H2.out, T2.out⟩
set_option maxRecDepth 100000 in
set_option maxHeartbeats 400000 in
theorem learn_go (B0 i : Nat) (hi : i < K.length) (hB0 : B0 ≤ b) (e : Int) (w : World) (h : DriveAt w d b p q B G S K) :
    Calls Try.prog 25 #[.pointer (some ⟨d, 0, none⟩), .int .i64 (i : Int), .int .i64 e] w (DriveIs d b p q B B0 G S (learnK K i e) (.tuple #[]) w) := by
  by_cases h10 : e = 10
  · subst h10
    have HS := hide (spoil_go B0 i hi hB0 w h)
    have c := h.cellRow
    have hf := h.few
    have HK := hide (show learnK K i 10 = K.set i ⟨true, -1⟩ from rfl)
    clear h
    go_enter Try.func25, Try.ntmps25
    go_wp2_with fail
    refine HS.out.mono ?_
    rintro e w1 ⟨rfl, hd, ht⟩
    have HD := hide hd
    have HT := hide ht
    clear hd ht c
    go_wp2_with fail
    go_end0
    exact ⟨rfl, by rw [HK.out]; exact HD.out, HT.out⟩
  · by_cases h9 : e = 9
    · subst h9
      have HS := hide (forget_any w h)
      obtain ⟨cs, hcs⟩ := h.base
      have HCS := hide hcs
      have HK := hide (show learnK K i 9 = fgK K K.length from rfl)
      clear h hcs
      go_enter Try.func25, Try.ntmps25
      go_wp2_with fail
      refine HS.out.mono ?_
      rintro e w1 ⟨rfl, hd, ho⟩
      have HD := hide hd
      have HT := hide (TurnD.of_only ho HCS.out hB0)
      clear hd ho
      go_wp2_with fail
      go_end0
      exact ⟨rfl, by rw [HK.out]; exact HD.out, HT.out⟩
    · have HK : learnK K i e = K := by unfold learnK; rw [if_neg h10, if_neg h9]
      rw [HK]
      exact (learn_none _ (i : Int) e h9 h10 w).mono fun e' w' ⟨h1, h2⟩ => ⟨h1, h2 ▸ h, h2 ▸ TurnD.refl _ _⟩
set_option maxRecDepth 100000 in
set_option maxHeartbeats 400000 in
/-- Program that the chip refuses -/
theorem dprog_err (E : Int) (hE0 : ¬ E = 0) (B0 i j : Nat) (hi : i < K.length) (hB0 : B0 ≤ B ∧ B0 ≤ b) (hbad : (K.getD i kn0).bad = false) (hx : nextK S K i = (j : Int)) (hj : j < S.pgs) (k l s n m : Int) (hT : TagOk k l n m) (s0 : 0 ≤ s) (s1 : s ≤ 18446744073709551615) (td : List UInt8) (ht : td.length = S.size) (hsz : S.size ≤ 1024) (hS : NandOk S)
    (hE : (progT S (i : Int) (j : Int) (bs td) (bs (frameL k l s n m td))).2 = E) (hD : DimsSame S (progT S (i : Int) (j : Int) (bs td) (bs (frameL k l s n m td))).1) (w : World) (h : DriveAt w d b p q B G S K) :
    Calls Try.prog 8 #[.pointer (some ⟨d, 0, none⟩), .int .i64 (i : Int), .agg #[.int .u8 k, .int .i64 l, .int .u64 s, .int .i64 n, .int .i64 m], .string (bs td)] w (DriveIs d b p q B B0 G (progT S (i : Int) (j : Int) (bs td) (bs (frameL k l s n m td))).1 (learnK K i E) (.tuple #[.int .i64 0, .int .i64 E]) w) := by
  have hal := (Below.refl w.heap.size w).alloc (Nat.le_refl _) (.cells #[.int .u8 k, .int .i64 l, .int .u64 s, .int .i64 n, .int .i64 m] 31)
  have X := hide (heap_new w (.cells #[.int .u8 k, .int .i64 l, .int .u64 s, .int .i64 n, .int .i64 m] 31))
  have hbw : B0 ≤ w.heap.size := by obtain ⟨cs, c1, -⟩ := h.row.ex; have := heap_lt c1; omega
  have HB := hide (TurnD.of_below hal hbw)
  have H := hide (h.below hal)
  have HM := hide (may_any (i : Int) _ H.out)
  rw [show mayE K (i : Int) = 0 by unfold mayE; rw [if_neg (by omega), Int.toNat_natCast, if_neg (by rw [hbad]; decide)]] at HM
  have HX := hide (fun W hW => dnext_yes (d := d) (b := b) (p := p) (q := q) (B := B) (G := G) (S := S) (K := K) i hi W hW)
  rw [hx] at HX
  have HR := hide (fun W => tright_yes k l s n m hT W)
  have HF := hide (fun W hW => frame_ok d 4 k l s n m hT s0 s1 td (by omega) W hW)
  have HC := hide (fun W hW => program_any p q B G S hS (i : Int) (j : Int) (bs td) (bs (frameL k l s n m td)) W hW)
  rw [hE] at HC
  have HTS := hide (show (bs td).size = S.size by rw [bs_size]; exact ht)
  have hf := h.few
  have HBAD := hide hbad
  have HD := hide hD
  have HBB := hide hB0
  have hpg : S.pgs ≤ 64 := h.chip.few.2
  have hjp : ¬ ((j : Int) = (S.pgs : Int)) := by omega
  have hj1 : ¬ ((j : Int) = -1) := by omega
  have hjp2 : ((j : Int) == (S.pgs : Int)) = false := beq_eq_false_iff_ne.mpr hjp
  have hj12 : ((j : Int) == -1) = false := beq_eq_false_iff_ne.mpr hj1
  have hE1 : (E == 0) = false := by simpa using hE0
  have hE2 : (E != 0) = true := by simpa using hE0
  clear h hal hbad hx ht hE hD hS hB0 hT s0 s1
  generalize (progT S (i : Int) (j : Int) (bs td) (bs (frameL k l s n m td))).1 = S2 at *
  generalize bs (frameL k l s n m td) = be at *
  generalize bs td = t at *
  go_enter Try.func8, Try.ntmps8
  go_upto_region 1 with (fail)
  generalize w.alloc (.cells #[.int .u8 k, .int .i64 l, .int .u64 s, .int .i64 n, .int .i64 m] 31) = w1 at *
  generalize hq : w.heap.size = q1 at *
  go_wp2_with fail
  refine HM.out.mono ?_
  rintro e w2 ⟨rfl, rfl⟩
  have hq1 := Nat.le_of_lt (Array.getElem?_eq_some_iff.mp X.out).1
  have hqb : B0 ≤ w1.heap.size := by omega
  have e0 := cell_of_block X.out 0
  have e1 := cell_of_block X.out 1
  have e2 := cell_of_block X.out 2
  have e3 := cell_of_block X.out 3
  have e4 := cell_of_block X.out 4
  have cs := H.out.cellSize
  have hts : (t.size : Int) = (S.size : Int) := by rw [HTS.out]
  go_wp2_with fail
  refine (HR.out _).mono ?_
  rintro e w3 ⟨rfl, hb⟩
  have H3 := hide (H.out.below hb)
  have X3 := hide ((hb.block _ (heap_lt X.out)).trans X.out)
  have cs3 := H3.out.cellSize
  have cp3 := H3.out.cellPages
  have B3 := hide (HB.out.trans (TurnD.of_below hb hqb))
  have hqb3 : B0 ≤ w3.heap.size := by have := hb.size; omega
  clear H HR HM X HB e0 e1 e2 e3 e4 cs hb
  go_wp2_with fail
  refine (HX.out _ H3.out).mono ?_
  rintro e w4 ⟨rfl, rfl⟩
  go_upto_region 9 with (fail)
  refine wp_region_held_drew (S := fun W => Below w3.heap.size w3 W) (by kernel_rfl) ((Below.refl _ _).drew) (fun hHeld => ?_)
  refine wpAnyH_take (i := 0) (oi := { dst := some 49, op := Op.move (Operand.tmp 0), type := 22, pos := "drive.go:165", after := #[], guard := none }) (v := ?_) rfl (by kernel_rfl) (by kernel_rfl) (by kernel_rfl) (fun _ _ _ h => h) (Or.inl ⟨by kernel_rfl, ?_⟩) hHeld ?_
  rotate_left
  · (intro w hSw; (try dsimp only at hSw); have e0 := cell_of_block ((hSw.block _ (heap_lt X3.out)).trans X3.out) 0; have e1 := cell_of_block ((hSw.block _ (heap_lt X3.out)).trans X3.out) 1; have e2 := cell_of_block ((hSw.block _ (heap_lt X3.out)).trans X3.out) 2; have e3 := cell_of_block ((hSw.block _ (heap_lt X3.out)).trans X3.out) 3; have e4 := cell_of_block ((hSw.block _ (heap_lt X3.out)).trans X3.out) 4; go_simp); try with_reducible rfl
  try simp only [Act.put, List.setIfInBounds_toArray, List.set_cons_zero, List.set_cons_succ]
  refine wpAnyH_take (i := 1) (oi := { dst := some 50, op := Op.nilCheck (Operand.tmp 49), type := 0, pos := "drive.go:165", after := #[{ on := 0, ground := Ground.data }], guard := none }) (v := ?_) rfl (by kernel_rfl) (by kernel_rfl) (by kernel_rfl) (fun _ _ _ h => h) (Or.inl ⟨by kernel_rfl, ?_⟩) hHeld ?_
  rotate_left
  · (intro w hSw; (try dsimp only at hSw); have e0 := cell_of_block ((hSw.block _ (heap_lt X3.out)).trans X3.out) 0; have e1 := cell_of_block ((hSw.block _ (heap_lt X3.out)).trans X3.out) 1; have e2 := cell_of_block ((hSw.block _ (heap_lt X3.out)).trans X3.out) 2; have e3 := cell_of_block ((hSw.block _ (heap_lt X3.out)).trans X3.out) 3; have e4 := cell_of_block ((hSw.block _ (heap_lt X3.out)).trans X3.out) 4; go_simp); try with_reducible rfl
  try simp only [Act.put, List.setIfInBounds_toArray, List.set_cons_zero, List.set_cons_succ]
  refine wpAnyH_take (i := 2) (oi := { dst := some 51, op := Op.fieldAddr 59 (Operand.tmp 50) 2, type := 0, pos := "drive.go:165", after := #[{ on := 1, ground := Ground.data }], guard := none }) (v := ?_) rfl (by kernel_rfl) (by kernel_rfl) (by kernel_rfl) (fun _ _ _ h => h) (Or.inl ⟨by kernel_rfl, ?_⟩) hHeld ?_
  rotate_left
  · (intro w hSw; (try dsimp only at hSw); have e0 := cell_of_block ((hSw.block _ (heap_lt X3.out)).trans X3.out) 0; have e1 := cell_of_block ((hSw.block _ (heap_lt X3.out)).trans X3.out) 1; have e2 := cell_of_block ((hSw.block _ (heap_lt X3.out)).trans X3.out) 2; have e3 := cell_of_block ((hSw.block _ (heap_lt X3.out)).trans X3.out) 3; have e4 := cell_of_block ((hSw.block _ (heap_lt X3.out)).trans X3.out) 4; go_simp); try with_reducible rfl
  try simp only [Act.put, List.setIfInBounds_toArray, List.set_cons_zero, List.set_cons_succ]
  refine wpAnyH_take (i := 3) (oi := { dst := some 52, op := Op.load 31 (Operand.tmp 6), type := 31, pos := "drive.go:165", after := #[], guard := none }) (v := ?_) rfl (by kernel_rfl) (by kernel_rfl) (by kernel_rfl) (fun _ _ _ h => h) (Or.inl ⟨by kernel_rfl, ?_⟩) hHeld ?_
  rotate_left
  · (intro w hSw; (try dsimp only at hSw); have e0 := cell_of_block ((hSw.block _ (heap_lt X3.out)).trans X3.out) 0; have e1 := cell_of_block ((hSw.block _ (heap_lt X3.out)).trans X3.out) 1; have e2 := cell_of_block ((hSw.block _ (heap_lt X3.out)).trans X3.out) 2; have e3 := cell_of_block ((hSw.block _ (heap_lt X3.out)).trans X3.out) 3; have e4 := cell_of_block ((hSw.block _ (heap_lt X3.out)).trans X3.out) 4; go_simp); try with_reducible rfl
  try simp only [Act.put, List.setIfInBounds_toArray, List.set_cons_zero, List.set_cons_succ]
  refine wpAnyH_take (i := 4) (oi := { dst := some 53, op := Op.move (Operand.tmp 3), type := 9, pos := "drive.go:165", after := #[], guard := none }) (v := ?_) rfl (by kernel_rfl) (by kernel_rfl) (by kernel_rfl) (fun _ _ _ h => h) (Or.inl ⟨by kernel_rfl, ?_⟩) hHeld ?_
  rotate_left
  · (intro w hSw; (try dsimp only at hSw); have e0 := cell_of_block ((hSw.block _ (heap_lt X3.out)).trans X3.out) 0; have e1 := cell_of_block ((hSw.block _ (heap_lt X3.out)).trans X3.out) 1; have e2 := cell_of_block ((hSw.block _ (heap_lt X3.out)).trans X3.out) 2; have e3 := cell_of_block ((hSw.block _ (heap_lt X3.out)).trans X3.out) 3; have e4 := cell_of_block ((hSw.block _ (heap_lt X3.out)).trans X3.out) 4; go_simp); try with_reducible rfl
  try simp only [Act.put, List.setIfInBounds_toArray, List.set_cons_zero, List.set_cons_succ]
  refine wpAnyH_ready (rs := [5]) (by kernel_rfl) (by simp) (AllReadyH.cons (o := { dst := some 54, op := Op.call { callee := Callee.value (Operand.func 31), args := #[Operand.tmp 51, Operand.tmp 52, Operand.tmp 53], argTypes := #[67, 31, 9] }, type := 70, pos := "drive.go:165", after := #[{ on := 2, ground := Ground.data }, { on := 3, ground := Ground.data }, { on := 4, ground := Ground.data }], guard := none }) rfl (fun K hK => ?_) AllReadyH.nil)
  have hOld := hide hHeld
  clear hHeld
  go_simp
  have hT4 := (H3.out.below hOld.out).tab
  refine (HF.out _ hT4).mono ?_
  rintro e w5 ⟨rfl, hb⟩
  have B5 := hide (hOld.out.trans (hb.mono hOld.out.size))
  clear hb hT4
  (try go_wp2_with fail)
  refine hK.out _ _ (B5.out) (fun hHeld => ?_)
  clear hK K hOld
  try simp only [Act.put, List.setIfInBounds_toArray, List.set_cons_zero, List.set_cons_succ]
  refine wpAnyH_take (i := 6) (oi := { dst := some 48, op := Op.move (Operand.tmp 54), type := 70, pos := "drive.go:165", after := #[{ on := 5, ground := Ground.data }], guard := none }) (v := ?_) rfl (by kernel_rfl) (by kernel_rfl) (by kernel_rfl) (fun _ _ _ h => h) (Or.inl ⟨by kernel_rfl, ?_⟩) hHeld ?_
  rotate_left
  · (intro w hSw; (try dsimp only at hSw); have e0 := cell_of_block ((hSw.block _ (heap_lt X3.out)).trans X3.out) 0; have e1 := cell_of_block ((hSw.block _ (heap_lt X3.out)).trans X3.out) 1; have e2 := cell_of_block ((hSw.block _ (heap_lt X3.out)).trans X3.out) 2; have e3 := cell_of_block ((hSw.block _ (heap_lt X3.out)).trans X3.out) 3; have e4 := cell_of_block ((hSw.block _ (heap_lt X3.out)).trans X3.out) 4; go_simp); try with_reducible rfl
  try simp only [Act.put, List.setIfInBounds_toArray, List.set_cons_zero, List.set_cons_succ]
  refine wpAnyH_take (i := 7) (oi := { dst := some 55, op := Op.extract (Operand.tmp 48) 0, type := 9, pos := "drive.go:165", after := #[{ on := 6, ground := Ground.data }], guard := none }) (v := ?_) rfl (by kernel_rfl) (by kernel_rfl) (by kernel_rfl) (fun _ _ _ h => h) (Or.inl ⟨by kernel_rfl, ?_⟩) hHeld ?_
  rotate_left
  · (intro w hSw; (try dsimp only at hSw); have e0 := cell_of_block ((hSw.block _ (heap_lt X3.out)).trans X3.out) 0; have e1 := cell_of_block ((hSw.block _ (heap_lt X3.out)).trans X3.out) 1; have e2 := cell_of_block ((hSw.block _ (heap_lt X3.out)).trans X3.out) 2; have e3 := cell_of_block ((hSw.block _ (heap_lt X3.out)).trans X3.out) 3; have e4 := cell_of_block ((hSw.block _ (heap_lt X3.out)).trans X3.out) 4; go_simp); try with_reducible rfl
  try simp only [Act.put, List.setIfInBounds_toArray, List.set_cons_zero, List.set_cons_succ]
  refine wpAnyH_take (i := 8) (oi := { dst := some 56, op := Op.extract (Operand.tmp 48) 1, type := 23, pos := "drive.go:165", after := #[{ on := 6, ground := Ground.data }, { on := 9, ground := Ground.gcOnly Departure.lateStores }], guard := none }) (v := ?_) rfl (by kernel_rfl) (by kernel_rfl) (by kernel_rfl) (fun _ _ _ h => h) (Or.inl ⟨by kernel_rfl, ?_⟩) hHeld ?_
  rotate_left
  · (intro w hSw; (try dsimp only at hSw); have e0 := cell_of_block ((hSw.block _ (heap_lt X3.out)).trans X3.out) 0; have e1 := cell_of_block ((hSw.block _ (heap_lt X3.out)).trans X3.out) 1; have e2 := cell_of_block ((hSw.block _ (heap_lt X3.out)).trans X3.out) 2; have e3 := cell_of_block ((hSw.block _ (heap_lt X3.out)).trans X3.out) 3; have e4 := cell_of_block ((hSw.block _ (heap_lt X3.out)).trans X3.out) 4; go_simp); try with_reducible rfl
  try simp only [Act.put, List.setIfInBounds_toArray, List.set_cons_zero, List.set_cons_succ]
  refine wpAnyH_take (i := 9) (oi := { dst := some 12, op := Op.assign (Operand.tmp 55), type := 9, pos := "drive.go:165", after := #[{ on := 7, ground := Ground.data }, { on := 5, ground := Ground.chain }, { on := 0, ground := Ground.phase }, { on := 1, ground := Ground.phase }, { on := 2, ground := Ground.phase }, { on := 3, ground := Ground.phase }, { on := 4, ground := Ground.phase }, { on := 5, ground := Ground.phase }, { on := 6, ground := Ground.phase }, { on := 7, ground := Ground.phase }, { on := 8, ground := Ground.textOnly Departure.lateStores }], guard := none }) (v := ?_) rfl (by kernel_rfl) (by kernel_rfl) (by kernel_rfl) (fun _ _ _ h => h) (Or.inl ⟨by kernel_rfl, ?_⟩) hHeld ?_
  rotate_left
  · (intro w hSw; (try dsimp only at hSw); have e0 := cell_of_block ((hSw.block _ (heap_lt X3.out)).trans X3.out) 0; have e1 := cell_of_block ((hSw.block _ (heap_lt X3.out)).trans X3.out) 1; have e2 := cell_of_block ((hSw.block _ (heap_lt X3.out)).trans X3.out) 2; have e3 := cell_of_block ((hSw.block _ (heap_lt X3.out)).trans X3.out) 3; have e4 := cell_of_block ((hSw.block _ (heap_lt X3.out)).trans X3.out) 4; go_simp); try with_reducible rfl
  try simp only [Act.put, List.setIfInBounds_toArray, List.set_cons_zero, List.set_cons_succ]
  refine wpAnyH_take (i := 10) (oi := { dst := some 13, op := Op.assign (Operand.tmp 56), type := 23, pos := "drive.go:165", after := #[{ on := 8, ground := Ground.data }, { on := 9, ground := Ground.chain }, { on := 0, ground := Ground.phase }, { on := 1, ground := Ground.phase }, { on := 2, ground := Ground.phase }, { on := 3, ground := Ground.phase }, { on := 4, ground := Ground.phase }, { on := 5, ground := Ground.phase }, { on := 6, ground := Ground.phase }, { on := 7, ground := Ground.phase }, { on := 8, ground := Ground.phase }, { on := 9, ground := Ground.phase }], guard := none }) (v := ?_) rfl (by kernel_rfl) (by kernel_rfl) (by kernel_rfl) (fun _ _ _ h => h) (Or.inl ⟨by kernel_rfl, ?_⟩) hHeld ?_
  rotate_left
  · (intro w hSw; (try dsimp only at hSw); have e0 := cell_of_block ((hSw.block _ (heap_lt X3.out)).trans X3.out) 0; have e1 := cell_of_block ((hSw.block _ (heap_lt X3.out)).trans X3.out) 1; have e2 := cell_of_block ((hSw.block _ (heap_lt X3.out)).trans X3.out) 2; have e3 := cell_of_block ((hSw.block _ (heap_lt X3.out)).trans X3.out) 3; have e4 := cell_of_block ((hSw.block _ (heap_lt X3.out)).trans X3.out) 4; go_simp); try with_reducible rfl
  try simp only [Act.put, List.setIfInBounds_toArray, List.set_cons_zero, List.set_cons_succ]
  refine wpAnyH_done (by kernel_rfl) ?_ _
  clear hHeld
  have H5 := hide (H3.out.below B5.out)
  have B6 := hide (B3.out.trans (TurnD.of_below B5.out hqb3))
  have c0 := H5.out.cell0
  clear H3 X3 HF B3 B5 cs3 cp3 HX
  go_wp2_with fail
  refine (HC.out _ H5.out.chip).mono ?_
  rintro e w6 ⟨rfl, hn, ht⟩
  have D6 := hide (H5.out.turn hn ht HD.out.1 HD.out.2.1 HD.out.2.2)
  have B7 := hide (B6.out.trans (TurnD.of_turn ht HBB.out.1))
  clear hn ht HC c0 H5 B6
  have HL := hide (learn_go B0 i hi HBB.out.2 E _ D6.out)
  go_wp2_with fail
  refine HL.out.mono ?_
  rintro e w7 ⟨rfl, hd, ht⟩
  have D8 := hide hd
  have B8 := hide (B7.out.trans ht)
  clear hd ht HL
  go_wp2_with fail
  go_ret2
  exact ⟨rfl, D8.out, B8.out⟩

end
end Go.Proofs.Ytoneolpjeonpaaa

namespace Go.Proofs.Ytoneolpjeonpaaa
set_option linter.unusedSimpArgs false
set_option linter.unusedVariables false
open Go.RowKit Go.WideShapes Go.ChangeShapes Go.ChangeAt Go.Deep
section
variable {w w' : World} {d b p q B : Nat} {G : Nat → Nat} {S S' : ChipM} {K : List KnM}

set_option maxRecDepth 100000 in
set_option maxHeartbeats 400000 in
theorem dread_far (i j : Int) (td be : List UInt8) (ht : td.length ≤ 1024) (hbe : be.length ≤ 1024) (ha : askE S i j = 0) (hr : readP S i j = (bs td, bs be)) (hp : parseE td be ≠ 0) (hnb : ¬ (AllFF (bs td) ∧ AllFF (bs be))) (hj : ¬ j = 0) (w : World) (h : DriveAt w d b p q B G S K) :
    Calls Try.prog 7 #[.pointer (some ⟨d, 0, none⟩), .int .i64 i, .int .i64 j] w fun e w' => e = .returned (.tuple #[.agg (pageC 2 0 0 0 0 0 (bs td)), .int .i64 0]) ∧ Below w.heap.size w w' := by
  have hal := (Below.refl w.heap.size w).alloc (Nat.le_refl _) (.cells #[.int .i64 0, .int .u8 0, .int .i64 0, .int .u64 0, .int .i64 0, .int .i64 0, .string ⟨#[]⟩] 33)
  have X := hide (heap_new w (.cells #[.int .i64 0, .int .u8 0, .int .i64 0, .int .u64 0, .int .i64 0, .int .i64 0, .string ⟨#[]⟩] 33))
  have HB := hide hal
  have H := hide (h.below hal)
  have HN := hide (fun W hW => nread_any p q B G S i j W hW)
  rw [ha, hr] at HN
  have HP := hide (fun W hW => parse_any d 4 td be (by omega) (by omega) W hW)
  rw [parseV_no _ _ hp] at HP
  have HBL := hide (fun W => blank_no (bs td) (bs be) hnb W)
  
  
  have HJ := hide hj
  obtain ⟨E, hE⟩ : ∃ E, parseE td be = E := ⟨_, rfl⟩
  rw [hE] at HP hp
  have hE1 : (E == 0) = false := by simpa using hp
  unfold tagV at HP
  clear h hal ha hr ht hbe hnb hE  hj
  generalize bs be = bb at *
  generalize bs td = t at *
  have c0 := H.out.cell0
  go_enter Try.func7, Try.ntmps7
  go_upto_region 1 with (fail)
  generalize w.alloc (.cells #[.int .i64 0, .int .u8 0, .int .i64 0, .int .u64 0, .int .i64 0, .int .i64 0, .string ⟨#[]⟩] 33) = w1 at *
  generalize hq : w.heap.size = q1 at *
  have hq1 := Nat.le_of_lt (Array.getElem?_eq_some_iff.mp X.out).1
  go_wp2_with fail
  refine (HN.out _ H.out.chip).mono ?_
  rintro e w2 ⟨rfl, hb⟩
  have H2 := hide (H.out.below hb)
  have X2 := hide ((hb.block _ (heap_lt X.out)).trans X.out)
  have B2 := hide (HB.out.trans (hb.mono hq1))
  have hq2 : q1 ≤ w2.heap.size := by have := hb.size; omega
  clear H HN X HB hb c0 hq1
  go_wp2_with fail
  refine (HP.out _ H2.out.tab).mono ?_
  rintro e w3 ⟨rfl, hb⟩
  have X3 := hide ((hb.block _ (heap_lt X2.out)).trans X2.out)
  have B3 := hide (B2.out.trans (hb.mono hq2))
  have hq3 : q1 < w3.heap.size := heap_lt X3.out
  clear HP H2 B2 X2 hb hq2
  go_upto_region 8 with (fail)
  have XT := hide (heap_new w3 (.cells #[.int .u8 0, .int .i64 0, .int .u64 0, .int .i64 0, .int .i64 0] 31))
  have hal := (Below.refl w3.heap.size w3).alloc (Nat.le_refl _) (.cells #[.int .u8 0, .int .i64 0, .int .u64 0, .int .i64 0, .int .i64 0] 31)
  have X4 := hide ((hal.block _ hq3).trans X3.out)
  have B4 := hide (B3.out.trans (hal.mono (Nat.le_of_lt hq3)))
  generalize w3.alloc (.cells #[.int .u8 0, .int .i64 0, .int .u64 0, .int .i64 0, .int .i64 0] 31) = w4 at *
  generalize w3.heap.size = q3 at *
  have e0 := cell_of_block XT.out 0
  have e1 := cell_of_block XT.out 1
  have e2 := cell_of_block XT.out 2
  have e3 := cell_of_block XT.out 3
  have e4 := cell_of_block XT.out 4
  have hq4 : q1 < w4.heap.size := heap_lt X4.out
  clear X3 B3 hal
  go_upto_region 10 with (fail)
  clear e0 e1 e2 e3 e4 XT hq3
  have XP := hide (heap_new w4 (.cells #[.int .i64 0, .int .u8 0, .int .i64 0, .int .u64 0, .int .i64 0, .int .i64 0, .string t] 33))
  have hal := (Below.refl w4.heap.size w4).alloc (Nat.le_refl _) (.cells #[.int .i64 0, .int .u8 0, .int .i64 0, .int .u64 0, .int .i64 0, .int .i64 0, .string t] 33)
  have X5 := hide ((hal.block _ hq4).trans X4.out)
  have B5 := hide (B4.out.trans (hal.mono (Nat.le_of_lt hq4)))
  generalize w4.alloc (.cells #[.int .i64 0, .int .u8 0, .int .i64 0, .int .u64 0, .int .i64 0, .int .i64 0, .string t] 33) = w5 at *
  generalize w4.heap.size = q4 at *
  clear X4 B4 hal
  have hne : ¬ q4 = q1 := by omega
  have hne2 : ¬ q1 = q4 := by omega
  have f0 := frozen_of_block XP.out 0
  have c0 : w5.cell? ⟨q4, 0, none⟩ = some (.int .i64 0) := by rw [cell_of_block XP.out]; rfl
  have hj : (j == 0) = false := by rw [beq_eq_false_iff_ne]; exact HJ.out
  have hj' : ¬ j = 0 := HJ.out
  go_wp2_with fail
  refine (HBL.out _).mono ?_
  rintro e w6 ⟨rfl, rfl⟩
  
  go_upto_region 16 with (fail)
  have XQ := hide (show (w5.setCell ⟨q4, 0, none⟩ (.int .i64 2)).heap[q4]? = some (.cells #[.int .i64 2, .int .u8 0, .int .i64 0, .int .u64 0, .int .i64 0, .int .i64 0, .string t] 33 (0, 0)) from block_setCell XP.out _ _)
  have X6 := hide ((block_setCell_other (w := w5) (g := q4) (b := q1) hne 0 (.int .i64 2)).trans X5.out)
  have B6 := hide (B5.out.setCell (p := ⟨q4, 0, none⟩) (Nat.le_of_lt hq4) (.int .i64 2))
  generalize w5.setCell ⟨q4, 0, none⟩ (.int .i64 2) = w6 at *
  clear X5 B5 XP f0 c0
  have e0 := cell_of_block XQ.out 0
  have e1 := cell_of_block XQ.out 1
  have e2 := cell_of_block XQ.out 2
  have e3 := cell_of_block XQ.out 3
  have e4 := cell_of_block XQ.out 4
  have e5 := cell_of_block XQ.out 5
  have e6 := cell_of_block XQ.out 6
  have g0 := cell_of_block X6.out 0
  have g1 := cell_of_block X6.out 1
  have g2 := cell_of_block X6.out 2
  have g3 := cell_of_block X6.out 3
  have g4 := cell_of_block X6.out 4
  have g5 := cell_of_block X6.out 5
  have g6 := cell_of_block X6.out 6
  have z0 := frozen_of_block X6.out 0
  have z1 := frozen_of_block X6.out 1
  have z2 := frozen_of_block X6.out 2
  have z3 := frozen_of_block X6.out 3
  have z4 := frozen_of_block X6.out 4
  have z5 := frozen_of_block X6.out 5
  have z6 := frozen_of_block X6.out 6
  go_wp2_with fail
  exact bodyPost_ret (res_page Try.results7 _ _ q1 2 0 0 0 0 0 t _ rfl rfl (page_set X6.out)) rfl ⟨rfl, by rw [hq]; exact ((((((B6.out.setCell (p := ⟨q1, 0, none⟩) (Nat.le_refl _) _).setCell (p := ⟨q1, 1, none⟩) (Nat.le_refl _) _).setCell (p := ⟨q1, 2, none⟩) (Nat.le_refl _) _).setCell (p := ⟨q1, 3, none⟩) (Nat.le_refl _) _).setCell (p := ⟨q1, 4, none⟩) (Nat.le_refl _) _).setCell (p := ⟨q1, 5, none⟩) (Nat.le_refl _) _).setCell (p := ⟨q1, 6, none⟩) (Nat.le_refl _) _⟩

set_option maxRecDepth 100000 in
set_option maxHeartbeats 400000 in
theorem dread_fact (i j : Int) (td be : List UInt8) (ht : td.length ≤ 1024) (hbe : be.length ≤ 1024) (ha : askE S i j = 0) (hr : readP S i j = (bs td, bs be)) (hp : parseE td be ≠ 0) (hnb : ¬ (AllFF (bs td) ∧ AllFF (bs be))) (hj : j = 0) (hfb : factB (bs be) = true) (w : World) (h : DriveAt w d b p q B G S K) :
    Calls Try.prog 7 #[.pointer (some ⟨d, 0, none⟩), .int .i64 i, .int .i64 j] w fun e w' => e = .returned (.tuple #[.agg (pageC 3 0 0 0 0 0 (bs td)), .int .i64 0]) ∧ Below w.heap.size w w' := by
  have hal := (Below.refl w.heap.size w).alloc (Nat.le_refl _) (.cells #[.int .i64 0, .int .u8 0, .int .i64 0, .int .u64 0, .int .i64 0, .int .i64 0, .string ⟨#[]⟩] 33)
  have X := hide (heap_new w (.cells #[.int .i64 0, .int .u8 0, .int .i64 0, .int .u64 0, .int .i64 0, .int .i64 0, .string ⟨#[]⟩] 33))
  have HB := hide hal
  have H := hide (h.below hal)
  have HN := hide (fun W hW => nread_any p q B G S i j W hW)
  rw [ha, hr] at HN
  have HP := hide (fun W hW => parse_any d 4 td be (by omega) (by omega) W hW)
  rw [parseV_no _ _ hp] at HP
  have HBL := hide (fun W => blank_no (bs td) (bs be) hnb W)
  have HFC := hide (fun W => factory_any (bs be) (by rw [bs_size]; omega) W)
  rw [hfb] at HFC
  have HJ := hide hj
  obtain ⟨E, hE⟩ : ∃ E, parseE td be = E := ⟨_, rfl⟩
  rw [hE] at HP hp
  have hE1 : (E == 0) = false := by simpa using hp
  unfold tagV at HP
  clear h hal ha hr ht hbe hnb hE hfb hj
  generalize bs be = bb at *
  generalize bs td = t at *
  have c0 := H.out.cell0
  go_enter Try.func7, Try.ntmps7
  go_upto_region 1 with (fail)
  generalize w.alloc (.cells #[.int .i64 0, .int .u8 0, .int .i64 0, .int .u64 0, .int .i64 0, .int .i64 0, .string ⟨#[]⟩] 33) = w1 at *
  generalize hq : w.heap.size = q1 at *
  have hq1 := Nat.le_of_lt (Array.getElem?_eq_some_iff.mp X.out).1
  go_wp2_with fail
  refine (HN.out _ H.out.chip).mono ?_
  rintro e w2 ⟨rfl, hb⟩
  have H2 := hide (H.out.below hb)
  have X2 := hide ((hb.block _ (heap_lt X.out)).trans X.out)
  have B2 := hide (HB.out.trans (hb.mono hq1))
  have hq2 : q1 ≤ w2.heap.size := by have := hb.size; omega
  clear H HN X HB hb c0 hq1
  go_wp2_with fail
  refine (HP.out _ H2.out.tab).mono ?_
  rintro e w3 ⟨rfl, hb⟩
  have X3 := hide ((hb.block _ (heap_lt X2.out)).trans X2.out)
  have B3 := hide (B2.out.trans (hb.mono hq2))
  have hq3 : q1 < w3.heap.size := heap_lt X3.out
  clear HP H2 B2 X2 hb hq2
  go_upto_region 8 with (fail)
  have XT := hide (heap_new w3 (.cells #[.int .u8 0, .int .i64 0, .int .u64 0, .int .i64 0, .int .i64 0] 31))
  have hal := (Below.refl w3.heap.size w3).alloc (Nat.le_refl _) (.cells #[.int .u8 0, .int .i64 0, .int .u64 0, .int .i64 0, .int .i64 0] 31)
  have X4 := hide ((hal.block _ hq3).trans X3.out)
  have B4 := hide (B3.out.trans (hal.mono (Nat.le_of_lt hq3)))
  generalize w3.alloc (.cells #[.int .u8 0, .int .i64 0, .int .u64 0, .int .i64 0, .int .i64 0] 31) = w4 at *
  generalize w3.heap.size = q3 at *
  have e0 := cell_of_block XT.out 0
  have e1 := cell_of_block XT.out 1
  have e2 := cell_of_block XT.out 2
  have e3 := cell_of_block XT.out 3
  have e4 := cell_of_block XT.out 4
  have hq4 : q1 < w4.heap.size := heap_lt X4.out
  clear X3 B3 hal
  go_upto_region 10 with (fail)
  clear e0 e1 e2 e3 e4 XT hq3
  have XP := hide (heap_new w4 (.cells #[.int .i64 0, .int .u8 0, .int .i64 0, .int .u64 0, .int .i64 0, .int .i64 0, .string t] 33))
  have hal := (Below.refl w4.heap.size w4).alloc (Nat.le_refl _) (.cells #[.int .i64 0, .int .u8 0, .int .i64 0, .int .u64 0, .int .i64 0, .int .i64 0, .string t] 33)
  have X5 := hide ((hal.block _ hq4).trans X4.out)
  have B5 := hide (B4.out.trans (hal.mono (Nat.le_of_lt hq4)))
  generalize w4.alloc (.cells #[.int .i64 0, .int .u8 0, .int .i64 0, .int .u64 0, .int .i64 0, .int .i64 0, .string t] 33) = w5 at *
  generalize w4.heap.size = q4 at *
  clear X4 B4 hal
  have hne : ¬ q4 = q1 := by omega
  have hne2 : ¬ q1 = q4 := by omega
  have f0 := frozen_of_block XP.out 0
  have c0 : w5.cell? ⟨q4, 0, none⟩ = some (.int .i64 0) := by rw [cell_of_block XP.out]; rfl
  have hj : (j == 0) = true := by rw [HJ.out]; rfl
  go_wp2_with fail
  refine (HBL.out _).mono ?_
  rintro e w6 ⟨rfl, rfl⟩
  go_wp2_with fail
  refine (HFC.out _).mono ?_
  rintro e w6 ⟨rfl, rfl⟩
  go_upto_region 16 with (fail)
  have XQ := hide (show (w5.setCell ⟨q4, 0, none⟩ (.int .i64 3)).heap[q4]? = some (.cells #[.int .i64 3, .int .u8 0, .int .i64 0, .int .u64 0, .int .i64 0, .int .i64 0, .string t] 33 (0, 0)) from block_setCell XP.out _ _)
  have X6 := hide ((block_setCell_other (w := w5) (g := q4) (b := q1) hne 0 (.int .i64 3)).trans X5.out)
  have B6 := hide (B5.out.setCell (p := ⟨q4, 0, none⟩) (Nat.le_of_lt hq4) (.int .i64 3))
  generalize w5.setCell ⟨q4, 0, none⟩ (.int .i64 3) = w6 at *
  clear X5 B5 XP f0 c0
  have e0 := cell_of_block XQ.out 0
  have e1 := cell_of_block XQ.out 1
  have e2 := cell_of_block XQ.out 2
  have e3 := cell_of_block XQ.out 3
  have e4 := cell_of_block XQ.out 4
  have e5 := cell_of_block XQ.out 5
  have e6 := cell_of_block XQ.out 6
  have g0 := cell_of_block X6.out 0
  have g1 := cell_of_block X6.out 1
  have g2 := cell_of_block X6.out 2
  have g3 := cell_of_block X6.out 3
  have g4 := cell_of_block X6.out 4
  have g5 := cell_of_block X6.out 5
  have g6 := cell_of_block X6.out 6
  have z0 := frozen_of_block X6.out 0
  have z1 := frozen_of_block X6.out 1
  have z2 := frozen_of_block X6.out 2
  have z3 := frozen_of_block X6.out 3
  have z4 := frozen_of_block X6.out 4
  have z5 := frozen_of_block X6.out 5
  have z6 := frozen_of_block X6.out 6
  go_wp2_with fail
  exact bodyPost_ret (res_page Try.results7 _ _ q1 3 0 0 0 0 0 t _ rfl rfl (page_set X6.out)) rfl ⟨rfl, by rw [hq]; exact ((((((B6.out.setCell (p := ⟨q1, 0, none⟩) (Nat.le_refl _) _).setCell (p := ⟨q1, 1, none⟩) (Nat.le_refl _) _).setCell (p := ⟨q1, 2, none⟩) (Nat.le_refl _) _).setCell (p := ⟨q1, 3, none⟩) (Nat.le_refl _) _).setCell (p := ⟨q1, 4, none⟩) (Nat.le_refl _) _).setCell (p := ⟨q1, 5, none⟩) (Nat.le_refl _) _).setCell (p := ⟨q1, 6, none⟩) (Nat.le_refl _) _⟩

set_option maxRecDepth 100000 in
set_option maxHeartbeats 400000 in
theorem dread_plain (i j : Int) (td be : List UInt8) (ht : td.length ≤ 1024) (hbe : be.length ≤ 1024) (ha : askE S i j = 0) (hr : readP S i j = (bs td, bs be)) (hp : parseE td be ≠ 0) (hnb : ¬ (AllFF (bs td) ∧ AllFF (bs be))) (hj : j = 0) (hfb : factB (bs be) = false) (w : World) (h : DriveAt w d b p q B G S K) :
    Calls Try.prog 7 #[.pointer (some ⟨d, 0, none⟩), .int .i64 i, .int .i64 j] w fun e w' => e = .returned (.tuple #[.agg (pageC 2 0 0 0 0 0 (bs td)), .int .i64 0]) ∧ Below w.heap.size w w' := by
  have hal := (Below.refl w.heap.size w).alloc (Nat.le_refl _) (.cells #[.int .i64 0, .int .u8 0, .int .i64 0, .int .u64 0, .int .i64 0, .int .i64 0, .string ⟨#[]⟩] 33)
  have X := hide (heap_new w (.cells #[.int .i64 0, .int .u8 0, .int .i64 0, .int .u64 0, .int .i64 0, .int .i64 0, .string ⟨#[]⟩] 33))
  have HB := hide hal
  have H := hide (h.below hal)
  have HN := hide (fun W hW => nread_any p q B G S i j W hW)
  rw [ha, hr] at HN
  have HP := hide (fun W hW => parse_any d 4 td be (by omega) (by omega) W hW)
  rw [parseV_no _ _ hp] at HP
  have HBL := hide (fun W => blank_no (bs td) (bs be) hnb W)
  have HFC := hide (fun W => factory_any (bs be) (by rw [bs_size]; omega) W)
  rw [hfb] at HFC
  have HJ := hide hj
  obtain ⟨E, hE⟩ : ∃ E, parseE td be = E := ⟨_, rfl⟩
  rw [hE] at HP hp
  have hE1 : (E == 0) = false := by simpa using hp
  unfold tagV at HP
  clear h hal ha hr ht hbe hnb hE hfb hj
  generalize bs be = bb at *
  generalize bs td = t at *
  have c0 := H.out.cell0
  go_enter Try.func7, Try.ntmps7
  go_upto_region 1 with (fail)
  generalize w.alloc (.cells #[.int .i64 0, .int .u8 0, .int .i64 0, .int .u64 0, .int .i64 0, .int .i64 0, .string ⟨#[]⟩] 33) = w1 at *
  generalize hq : w.heap.size = q1 at *
  have hq1 := Nat.le_of_lt (Array.getElem?_eq_some_iff.mp X.out).1
  go_wp2_with fail
  refine (HN.out _ H.out.chip).mono ?_
  rintro e w2 ⟨rfl, hb⟩
  have H2 := hide (H.out.below hb)
  have X2 := hide ((hb.block _ (heap_lt X.out)).trans X.out)
  have B2 := hide (HB.out.trans (hb.mono hq1))
  have hq2 : q1 ≤ w2.heap.size := by have := hb.size; omega
  clear H HN X HB hb c0 hq1
  go_wp2_with fail
  refine (HP.out _ H2.out.tab).mono ?_
  rintro e w3 ⟨rfl, hb⟩
  have X3 := hide ((hb.block _ (heap_lt X2.out)).trans X2.out)
  have B3 := hide (B2.out.trans (hb.mono hq2))
  have hq3 : q1 < w3.heap.size := heap_lt X3.out
  clear HP H2 B2 X2 hb hq2
  go_upto_region 8 with (fail)
  have XT := hide (heap_new w3 (.cells #[.int .u8 0, .int .i64 0, .int .u64 0, .int .i64 0, .int .i64 0] 31))
  have hal := (Below.refl w3.heap.size w3).alloc (Nat.le_refl _) (.cells #[.int .u8 0, .int .i64 0, .int .u64 0, .int .i64 0, .int .i64 0] 31)
  have X4 := hide ((hal.block _ hq3).trans X3.out)
  have B4 := hide (B3.out.trans (hal.mono (Nat.le_of_lt hq3)))
  generalize w3.alloc (.cells #[.int .u8 0, .int .i64 0, .int .u64 0, .int .i64 0, .int .i64 0] 31) = w4 at *
  generalize w3.heap.size = q3 at *
  have e0 := cell_of_block XT.out 0
  have e1 := cell_of_block XT.out 1
  have e2 := cell_of_block XT.out 2
  have e3 := cell_of_block XT.out 3
  have e4 := cell_of_block XT.out 4
  have hq4 : q1 < w4.heap.size := heap_lt X4.out
  clear X3 B3 hal
  go_upto_region 10 with (fail)
  clear e0 e1 e2 e3 e4 XT hq3
  have XP := hide (heap_new w4 (.cells #[.int .i64 0, .int .u8 0, .int .i64 0, .int .u64 0, .int .i64 0, .int .i64 0, .string t] 33))
  have hal := (Below.refl w4.heap.size w4).alloc (Nat.le_refl _) (.cells #[.int .i64 0, .int .u8 0, .int .i64 0, .int .u64 0, .int .i64 0, .int .i64 0, .string t] 33)
  have X5 := hide ((hal.block _ hq4).trans X4.out)
  have B5 := hide (B4.out.trans (hal.mono (Nat.le_of_lt hq4)))
  generalize w4.alloc (.cells #[.int .i64 0, .int .u8 0, .int .i64 0, .int .u64 0, .int .i64 0, .int .i64 0, .string t] 33) = w5 at *
  generalize w4.heap.size = q4 at *
  clear X4 B4 hal
  have hne : ¬ q4 = q1 := by omega
  have hne2 : ¬ q1 = q4 := by omega
  have f0 := frozen_of_block XP.out 0
  have c0 : w5.cell? ⟨q4, 0, none⟩ = some (.int .i64 0) := by rw [cell_of_block XP.out]; rfl
  have hj : (j == 0) = true := by rw [HJ.out]; rfl
  go_wp2_with fail
  refine (HBL.out _).mono ?_
  rintro e w6 ⟨rfl, rfl⟩
  go_wp2_with fail
  refine (HFC.out _).mono ?_
  rintro e w6 ⟨rfl, rfl⟩
  go_upto_region 16 with (fail)
  have XQ := hide (show (w5.setCell ⟨q4, 0, none⟩ (.int .i64 2)).heap[q4]? = some (.cells #[.int .i64 2, .int .u8 0, .int .i64 0, .int .u64 0, .int .i64 0, .int .i64 0, .string t] 33 (0, 0)) from block_setCell XP.out _ _)
  have X6 := hide ((block_setCell_other (w := w5) (g := q4) (b := q1) hne 0 (.int .i64 2)).trans X5.out)
  have B6 := hide (B5.out.setCell (p := ⟨q4, 0, none⟩) (Nat.le_of_lt hq4) (.int .i64 2))
  generalize w5.setCell ⟨q4, 0, none⟩ (.int .i64 2) = w6 at *
  clear X5 B5 XP f0 c0
  have e0 := cell_of_block XQ.out 0
  have e1 := cell_of_block XQ.out 1
  have e2 := cell_of_block XQ.out 2
  have e3 := cell_of_block XQ.out 3
  have e4 := cell_of_block XQ.out 4
  have e5 := cell_of_block XQ.out 5
  have e6 := cell_of_block XQ.out 6
  have g0 := cell_of_block X6.out 0
  have g1 := cell_of_block X6.out 1
  have g2 := cell_of_block X6.out 2
  have g3 := cell_of_block X6.out 3
  have g4 := cell_of_block X6.out 4
  have g5 := cell_of_block X6.out 5
  have g6 := cell_of_block X6.out 6
  have z0 := frozen_of_block X6.out 0
  have z1 := frozen_of_block X6.out 1
  have z2 := frozen_of_block X6.out 2
  have z3 := frozen_of_block X6.out 3
  have z4 := frozen_of_block X6.out 4
  have z5 := frozen_of_block X6.out 5
  have z6 := frozen_of_block X6.out 6
  go_wp2_with fail
  exact bodyPost_ret (res_page Try.results7 _ _ q1 2 0 0 0 0 0 t _ rfl rfl (page_set X6.out)) rfl ⟨rfl, by rw [hq]; exact ((((((B6.out.setCell (p := ⟨q1, 0, none⟩) (Nat.le_refl _) _).setCell (p := ⟨q1, 1, none⟩) (Nat.le_refl _) _).setCell (p := ⟨q1, 2, none⟩) (Nat.le_refl _) _).setCell (p := ⟨q1, 3, none⟩) (Nat.le_refl _) _).setCell (p := ⟨q1, 4, none⟩) (Nat.le_refl _) _).setCell (p := ⟨q1, 5, none⟩) (Nat.le_refl _) _).setCell (p := ⟨q1, 6, none⟩) (Nat.le_refl _) _⟩

end
end Go.Proofs.Ytoneolpjeonpaaa
