/-
  Lemmas and contracts of this project's own, put together: Drive3, Drive4, Drive5, Drive6, Drive7, Drive8, Drive9, Drive10, Drive11, Drive12, MBat, Pool.
-/
import Derived.Test.YtjfmkfhjbdiojaaGreatPk12
namespace Go.Proofs.YtjfmkfhjbdiojaaGreat
set_option linter.unusedSimpArgs false
set_option linter.unusedVariables false
open Go.RowKit Go.WideShapes Go.ChangeShapes Go.ChangeAt Go.Deep

section
variable {w w' : World} {d b p q B : Nat} {G : Nat → Nat} {S S' : ChipM} {K : List KnM}
/-- an error that tells nothing of a block -/
theorem learn_none (v : Value) (i e : Int) (h9 : ¬ e = 9) (h10 : ¬ e = 10) (w : World) :
    Calls Tryz.prog 34 #[v, .int .i64 i, .int .i64 e] w (DNilIs w) := by
  have hb9 : (e == 9) = false := by simpa using h9
  have hb10 : (e == 10) = false := by simpa using h10
  go_enter Tryz.func34, Tryz.ntmps34
  go_wp2_with fail
  go_end0
  exact ⟨rfl, rfl⟩
def DimsSame (S S' : ChipM) : Prop := S'.L.length = S.L.length ∧ S'.pgs = S.pgs ∧ S'.size = S.size
/-- below B0 nothing has turned; of the rest the chip and what a drive knows alone -/
def TurnD (B0 : Nat) (w w' : World) : Prop := Below B0 w w' ∧ KeepsT [111, 122, 107, 147] w w'
theorem TurnD.refl (B0 : Nat) (w : World) : TurnD B0 w w := ⟨Below.refl _ _, KeepsT.refl _ _⟩
theorem TurnD.trans {B0 : Nat} {a b c : World} (h : TurnD B0 a b) (k : TurnD B0 b c) : TurnD B0 a c := ⟨h.1.trans k.1, h.2.trans k.2⟩
theorem TurnD.of_below {B0 : Nat} {w w' : World} (h : Below w.heap.size w w') (hB : B0 ≤ w.heap.size) : TurnD B0 w w' := ⟨h.mono hB, KeepsT.of_below h⟩
theorem TurnD.of_turn {B0 B : Nat} {w w' : World} (h : Turn B w w') (hB : B0 ≤ B) : TurnD B0 w w' := ⟨h.1.mono hB, h.2.mono (by decide)⟩
theorem TurnD.know {B0 : Nat} {a w : World} (h : TurnD B0 a w) {cs : Array Value} {b : Nat} {fz : Nat × Nat} (hb : w.heap[b]? = some (.cells cs 147 fz)) (hB : B0 ≤ b) (j : Nat) (v : Value) : TurnD B0 a (w.setCell ⟨b, j, none⟩ v) :=
  ⟨h.1.setCell (p := ⟨b, j, none⟩) hB v, h.2.trans (KeepsT.setCell hb (by decide) j v)⟩
theorem TurnD.keep {B0 : Nat} {w w' : World} (h : TurnD B0 w w') {k : Nat} {c : Array Value} {t : TypeId} {fz : Nat × Nat} (hk : w.heap[k]? = some (.cells c t fz)) (ht : t ∉ [111, 122, 107, 147]) : w'.heap[k]? = some (.cells c t fz) := h.2.cells hk ht
theorem TurnD.drew {B0 : Nat} {a b : World} (h : TurnD B0 a b) : TurnD B0 a b.drew := ⟨h.1.drew, h.2⟩
theorem DriveAt.base {w : World} {d b p q B : Nat} {G : Nat → Nat} {S : ChipM} {K : List KnM} (h : DriveAt w d b p q B G S K) : ∃ cs : Array Value, w.heap[b]? = some (.cells cs 147 (0, 0)) := by
  obtain ⟨cs, c1, -⟩ := h.row.ex
  exact ⟨cs, c1⟩
def DriveIs (d b p q B B0 : Nat) (G : Nat → Nat) (S' : ChipM) (K' : List KnM) (v : Value) (w : World) (e : Ending) (w' : World) : Prop := e = .returned v ∧ DriveAt w' d b p q B G S' K' ∧ TurnD B0 w w'
set_option maxRecDepth 100000 in
set_option maxHeartbeats 400000 in
theorem derase_ok (B0 k : Nat) (hk : k < K.length) (hB0 : B0 ≤ B ∧ B0 ≤ b) (hbad : (K.getD k kn0).bad = false) (hS : NandOk S) (hF : FewE S) (hE : (eraseT S (k : Int)).2 = 0) (hD : DimsSame S (eraseT S (k : Int)).1) (w : World) (h : DriveAt w d b p q B G S K) :
    Calls Tryz.prog 117 #[.pointer (some ⟨d, 0, none⟩), .int .i64 (k : Int)] w (DriveIs d b p q B B0 G (eraseT S (k : Int)).1 (K.set k ⟨false, 0⟩) (.int .i64 0) w) := by
  have HM := hide (may_any (k : Int) w h)
  rw [show mayE K (k : Int) = 0 by unfold mayE; rw [if_neg (by omega), Int.toNat_natCast, if_neg (by rw [hbad]; decide)]] at HM
  have HC := hide (erase_any p q B G S hS hF (k : Int) w h.chip)
  rw [hE] at HC
  have HD := hide hD
  have H := hide h
  have HBB := hide hB0
  have c0 := h.cell0
  have hf := h.few
  have HBAD := hide hbad
  clear h hS hF hE hD hB0 hbad
  generalize (eraseT S (k : Int)).1 = S2 at *
  go_enter Tryz.func117, Tryz.ntmps117
  go_wp2_with fail
  refine HM.out.mono ?_
  rintro e w1 ⟨rfl, rfl⟩
  go_wp2_with fail
  refine HC.out.mono ?_
  rintro e w2 ⟨rfl, hn, ht⟩
  have D2 := hide (H.out.turn hn ht HD.out.1 HD.out.2.1 HD.out.2.2)
  have B2 := hide (TurnD.of_turn ht HBB.out.1)
  clear hn ht HC HM
  go_wp2_with fail
  refine (learn_none _ (k : Int) 0 (by decide) (by decide) _).mono ?_
  rintro e w3 ⟨rfl, rfl⟩
  have c := D2.out.cellRow
  obtain ⟨a0, a1, f0, f1⟩ := D2.out.at k hk
  have D3 := hide (D2.out.know k hk 1 (by decide) (.int .i64 0) ⟨false, 0⟩ (by unfold knC; rw [HBAD.out]; rfl))
  obtain ⟨csr, hcsr⟩ := D2.out.base
  have B3 := hide (B2.out.know hcsr HBB.out.2 (k * 2 + 1) (.int .i64 0))
  clear hcsr
  clear a0 f0 c0
  generalize (K.getD k kn0).next = xn at *
  go_wp2_with fail
  go_ret
  exact ⟨rfl, D3.out, B3.out⟩
set_option maxRecDepth 100000 in
set_option maxHeartbeats 400000 in
theorem dprog_order (B0 i : Nat) (hi : i < K.length) (hbad : (K.getD i kn0).bad = false) (hx : nextK S K i = -1) (k l s n m : Int) (hT : TagOk k l n m) (t : ByteArray) (ht : t.size = S.size) (hsz : S.size ≤ 1024) (w : World) (h : DriveAt w d b p q B G S K) :
    Calls Tryz.prog 63 #[.pointer (some ⟨d, 0, none⟩), .int .i64 (i : Int), .agg #[.int .u8 k, .int .i64 l, .int .u64 s, .int .i64 n, .int .i64 m], .string t] w fun e w' => e = .returned (.tuple #[.int .i64 0, .int .i64 11]) ∧ Below w.heap.size w w' := by
  have hal := (Below.refl w.heap.size w).alloc (Nat.le_refl _) (.cells #[.int .u8 k, .int .i64 l, .int .u64 s, .int .i64 n, .int .i64 m] 47)
  have X := hide (heap_new w (.cells #[.int .u8 k, .int .i64 l, .int .u64 s, .int .i64 n, .int .i64 m] 47))
  have HB := hide hal
  have H := hide (h.below hal)
  have HM := hide (may_any (i : Int) _ H.out)
  rw [show mayE K (i : Int) = 0 by unfold mayE; rw [if_neg (by omega), Int.toNat_natCast, if_neg (by rw [hbad]; decide)]] at HM
  have HX := hide (fun W hW => dnext_yes (d := d) (b := b) (p := p) (q := q) (B := B) (G := G) (S := S) (K := K) i hi W hW)
  rw [hx] at HX
  have HR := hide (fun W => tright_yes k l s n m hT W)
  have HTS := hide ht
  have hf := h.few
  clear h hal hbad hx ht
  go_enter Tryz.func63, Tryz.ntmps63
  go_upto_region 1 with (fail)
  generalize w.alloc (.cells #[.int .u8 k, .int .i64 l, .int .u64 s, .int .i64 n, .int .i64 m] 47) = w1 at *
  generalize hq : w.heap.size = q1 at *
  go_wp2_with fail
  refine HM.out.mono ?_
  rintro e w2 ⟨rfl, rfl⟩
  have e0 := cell_of_block X.out 0
  have e1 := cell_of_block X.out 1
  have e2 := cell_of_block X.out 2
  have e3 := cell_of_block X.out 3
  have e4 := cell_of_block X.out 4
  have cs := H.out.cellSize
  have hts : (t.size : Int) = (S.size : Int) := by rw [HTS.out]
  go_wp2_with fail
  refine (HR.out _).mono ?_
  rintro e w3 ⟨rfl, hb⟩
  have H3 := hide (H.out.below hb)
  have cs3 := H3.out.cellSize
  have B3 := hide (HB.out.trans (hb.mono (Nat.le_of_lt (Array.getElem?_eq_some_iff.mp X.out).1)))
  clear H HR HM X HB e0 e1 e2 e3 e4 cs
  go_wp2_with fail
  refine (HX.out _ H3.out).mono ?_
  rintro e w4 ⟨rfl, rfl⟩
  go_wp2_with fail
  go_ret2
  exact ⟨rfl, hq ▸ B3.out⟩
end
end Go.Proofs.YtjfmkfhjbdiojaaGreat

namespace Go.Proofs.YtjfmkfhjbdiojaaGreat
set_option linter.unusedSimpArgs false
set_option linter.unusedVariables false
open Go.RowKit Go.WideShapes Go.ChangeShapes Go.ChangeAt Go.Deep
section
variable {w w' : World} {d b p q B : Nat} {G : Nat → Nat} {S S' : ChipM} {K : List KnM}
set_option maxRecDepth 100000 in
set_option maxHeartbeats 400000 in
/-- Program that goes well -/
theorem dprog_ok (B0 i j : Nat) (hi : i < K.length) (hB0 : B0 ≤ B ∧ B0 ≤ b) (hbad : (K.getD i kn0).bad = false) (hx : nextK S K i = (j : Int)) (hj : j < S.pgs) (k l s n m : Int) (hT : TagOk k l n m) (s0 : 0 ≤ s) (s1 : s ≤ 18446744073709551615) (td : List UInt8) (ht : td.length = S.size) (hsz : S.size ≤ 1024) (hS : NandOk S)
    (hE : (progT S (i : Int) (j : Int) (bs td) (bs (frameL k l s n m td))).2 = 0) (hD : DimsSame S (progT S (i : Int) (j : Int) (bs td) (bs (frameL k l s n m td))).1) (w : World) (h : DriveAt w d b p q B G S K) :
    Calls Tryz.prog 63 #[.pointer (some ⟨d, 0, none⟩), .int .i64 (i : Int), .agg #[.int .u8 k, .int .i64 l, .int .u64 s, .int .i64 n, .int .i64 m], .string (bs td)] w (DriveIs d b p q B B0 G (progT S (i : Int) (j : Int) (bs td) (bs (frameL k l s n m td))).1 (K.set i ⟨false, (j : Int) + 1⟩) (.tuple #[.int .i64 (j : Int), .int .i64 0]) w) := by
  have hal := (Below.refl w.heap.size w).alloc (Nat.le_refl _) (.cells #[.int .u8 k, .int .i64 l, .int .u64 s, .int .i64 n, .int .i64 m] 47)
  have X := hide (heap_new w (.cells #[.int .u8 k, .int .i64 l, .int .u64 s, .int .i64 n, .int .i64 m] 47))
  have hbw : B0 ≤ w.heap.size := by obtain ⟨cs, c1, -⟩ := h.row.ex; have := heap_lt c1; omega
  have HB := hide (TurnD.of_below hal hbw)
  have H := hide (h.below hal)
  have HM := hide (may_any (i : Int) _ H.out)
  rw [show mayE K (i : Int) = 0 by unfold mayE; rw [if_neg (by omega), Int.toNat_natCast, if_neg (by rw [hbad]; decide)]] at HM
  have HX := hide (fun W hW => dnext_yes (d := d) (b := b) (p := p) (q := q) (B := B) (G := G) (S := S) (K := K) i hi W hW)
  rw [hx] at HX
  have HR := hide (fun W => tright_yes k l s n m hT W)
  have HF := hide (fun W hW => frame_ok d 4 k l s n m hT s0 s1 td (by omega) W hW)
  have HC := hide (fun W hW => program_any p q B G S hS (i : Int) (j : Int) (bs td) (bs (frameL k l s n m td)) W hW)
  rw [hE] at HC
  have HTS := hide (show (bs td).size = S.size by rw [bs_size]; exact ht)
  have hf := h.few
  have HBAD := hide hbad
  have HD := hide hD
  have HBB := hide hB0
  have hpg : S.pgs ≤ 64 := h.chip.few.2
  have hjp : ¬ ((j : Int) = (S.pgs : Int)) := by omega
  have hj1 : ¬ ((j : Int) = -1) := by omega
  have hjp2 : ((j : Int) == (S.pgs : Int)) = false := beq_eq_false_iff_ne.mpr hjp
  have hj12 : ((j : Int) == -1) = false := beq_eq_false_iff_ne.mpr hj1
  clear h hal hbad hx ht hE hD hS hB0 hT s0 s1
  generalize (progT S (i : Int) (j : Int) (bs td) (bs (frameL k l s n m td))).1 = S2 at *
  generalize bs (frameL k l s n m td) = be at *
  generalize bs td = t at *
  go_enter Tryz.func63, Tryz.ntmps63
  go_upto_region 1 with (fail)
  generalize w.alloc (.cells #[.int .u8 k, .int .i64 l, .int .u64 s, .int .i64 n, .int .i64 m] 47) = w1 at *
  generalize hq : w.heap.size = q1 at *
  go_wp2_with fail
  refine HM.out.mono ?_
  rintro e w2 ⟨rfl, rfl⟩
  have hq1 := Nat.le_of_lt (Array.getElem?_eq_some_iff.mp X.out).1
  have hqb : B0 ≤ w1.heap.size := by omega
  have e0 := cell_of_block X.out 0
  have e1 := cell_of_block X.out 1
  have e2 := cell_of_block X.out 2
  have e3 := cell_of_block X.out 3
  have e4 := cell_of_block X.out 4
  have cs := H.out.cellSize
  have hts : (t.size : Int) = (S.size : Int) := by rw [HTS.out]
  go_wp2_with fail
  refine (HR.out _).mono ?_
  rintro e w3 ⟨rfl, hb⟩
  have H3 := hide (H.out.below hb)
  have X3 := hide ((hb.block _ (heap_lt X.out)).trans X.out)
  have cs3 := H3.out.cellSize
  have cp3 := H3.out.cellPages
  have B3 := hide (HB.out.trans (TurnD.of_below hb hqb))
  have hqb3 : B0 ≤ w3.heap.size := by have := hb.size; omega
  clear H HR HM X HB e0 e1 e2 e3 e4 cs hb
  go_wp2_with fail
  refine (HX.out _ H3.out).mono ?_
  rintro e w4 ⟨rfl, rfl⟩
  go_upto_region 9 with (fail)
  refine wp_region_held_drew (S := fun W => Below w3.heap.size w3 W) (by kernel_rfl) ((Below.refl _ _).drew) (fun hHeld => ?_)
  refine wpAnyH_take (i := 0) (oi := { dst := some 49, op := Op.move (Operand.tmp 0), type := 24, pos := "drive.go:165", after := #[], guard := none }) (v := ?_) rfl (by kernel_rfl) (by kernel_rfl) (by kernel_rfl) (fun _ _ _ h => h) (Or.inl ⟨by kernel_rfl, ?_⟩) hHeld ?_
  rotate_left
  · (intro w hSw; (try dsimp only at hSw); have e0 := cell_of_block ((hSw.block _ (heap_lt X3.out)).trans X3.out) 0; have e1 := cell_of_block ((hSw.block _ (heap_lt X3.out)).trans X3.out) 1; have e2 := cell_of_block ((hSw.block _ (heap_lt X3.out)).trans X3.out) 2; have e3 := cell_of_block ((hSw.block _ (heap_lt X3.out)).trans X3.out) 3; have e4 := cell_of_block ((hSw.block _ (heap_lt X3.out)).trans X3.out) 4; go_simp); try with_reducible rfl
  try simp only [Act.put, List.setIfInBounds_toArray, List.set_cons_zero, List.set_cons_succ]
  refine wpAnyH_take (i := 1) (oi := { dst := some 50, op := Op.nilCheck (Operand.tmp 49), type := 0, pos := "drive.go:165", after := #[{ on := 0, ground := Ground.data }], guard := none }) (v := ?_) rfl (by kernel_rfl) (by kernel_rfl) (by kernel_rfl) (fun _ _ _ h => h) (Or.inl ⟨by kernel_rfl, ?_⟩) hHeld ?_
  rotate_left
  · (intro w hSw; (try dsimp only at hSw); have e0 := cell_of_block ((hSw.block _ (heap_lt X3.out)).trans X3.out) 0; have e1 := cell_of_block ((hSw.block _ (heap_lt X3.out)).trans X3.out) 1; have e2 := cell_of_block ((hSw.block _ (heap_lt X3.out)).trans X3.out) 2; have e3 := cell_of_block ((hSw.block _ (heap_lt X3.out)).trans X3.out) 3; have e4 := cell_of_block ((hSw.block _ (heap_lt X3.out)).trans X3.out) 4; go_simp); try with_reducible rfl
  try simp only [Act.put, List.setIfInBounds_toArray, List.set_cons_zero, List.set_cons_succ]
  refine wpAnyH_take (i := 2) (oi := { dst := some 51, op := Op.fieldAddr 98 (Operand.tmp 50) 2, type := 0, pos := "drive.go:165", after := #[{ on := 1, ground := Ground.data }], guard := none }) (v := ?_) rfl (by kernel_rfl) (by kernel_rfl) (by kernel_rfl) (fun _ _ _ h => h) (Or.inl ⟨by kernel_rfl, ?_⟩) hHeld ?_
  rotate_left
  · (intro w hSw; (try dsimp only at hSw); have e0 := cell_of_block ((hSw.block _ (heap_lt X3.out)).trans X3.out) 0; have e1 := cell_of_block ((hSw.block _ (heap_lt X3.out)).trans X3.out) 1; have e2 := cell_of_block ((hSw.block _ (heap_lt X3.out)).trans X3.out) 2; have e3 := cell_of_block ((hSw.block _ (heap_lt X3.out)).trans X3.out) 3; have e4 := cell_of_block ((hSw.block _ (heap_lt X3.out)).trans X3.out) 4; go_simp); try with_reducible rfl
  try simp only [Act.put, List.setIfInBounds_toArray, List.set_cons_zero, List.set_cons_succ]
  refine wpAnyH_take (i := 3) (oi := { dst := some 52, op := Op.load 47 (Operand.tmp 6), type := 47, pos := "drive.go:165", after := #[], guard := none }) (v := ?_) rfl (by kernel_rfl) (by kernel_rfl) (by kernel_rfl) (fun _ _ _ h => h) (Or.inl ⟨by kernel_rfl, ?_⟩) hHeld ?_
  rotate_left
  · (intro w hSw; (try dsimp only at hSw); have e0 := cell_of_block ((hSw.block _ (heap_lt X3.out)).trans X3.out) 0; have e1 := cell_of_block ((hSw.block _ (heap_lt X3.out)).trans X3.out) 1; have e2 := cell_of_block ((hSw.block _ (heap_lt X3.out)).trans X3.out) 2; have e3 := cell_of_block ((hSw.block _ (heap_lt X3.out)).trans X3.out) 3; have e4 := cell_of_block ((hSw.block _ (heap_lt X3.out)).trans X3.out) 4; go_simp); try with_reducible rfl
  try simp only [Act.put, List.setIfInBounds_toArray, List.set_cons_zero, List.set_cons_succ]
  refine wpAnyH_take (i := 4) (oi := { dst := some 53, op := Op.move (Operand.tmp 3), type := 9, pos := "drive.go:165", after := #[], guard := none }) (v := ?_) rfl (by kernel_rfl) (by kernel_rfl) (by kernel_rfl) (fun _ _ _ h => h) (Or.inl ⟨by kernel_rfl, ?_⟩) hHeld ?_
  rotate_left
  · (intro w hSw; (try dsimp only at hSw); have e0 := cell_of_block ((hSw.block _ (heap_lt X3.out)).trans X3.out) 0; have e1 := cell_of_block ((hSw.block _ (heap_lt X3.out)).trans X3.out) 1; have e2 := cell_of_block ((hSw.block _ (heap_lt X3.out)).trans X3.out) 2; have e3 := cell_of_block ((hSw.block _ (heap_lt X3.out)).trans X3.out) 3; have e4 := cell_of_block ((hSw.block _ (heap_lt X3.out)).trans X3.out) 4; go_simp); try with_reducible rfl
  try simp only [Act.put, List.setIfInBounds_toArray, List.set_cons_zero, List.set_cons_succ]
  refine wpAnyH_ready (rs := [5]) (by kernel_rfl) (by simp) (AllReadyH.cons (o := { dst := some 54, op := Op.call { callee := Callee.value (Operand.func 95), args := #[Operand.tmp 51, Operand.tmp 52, Operand.tmp 53], argTypes := #[103, 47, 9] }, type := 173, pos := "drive.go:165", after := #[{ on := 2, ground := Ground.data }, { on := 3, ground := Ground.data }, { on := 4, ground := Ground.data }], guard := none }) rfl (fun K hK => ?_) AllReadyH.nil)
  have hOld := hide hHeld
  clear hHeld
  go_simp
  have hT4 := (H3.out.below hOld.out).tab
  refine (HF.out _ hT4).mono ?_
  rintro e w5 ⟨rfl, hb⟩
  have B5 := hide (hOld.out.trans (hb.mono hOld.out.size))
  clear hb hT4
  (try go_wp2_with fail)
  refine hK.out _ _ (B5.out) (fun hHeld => ?_)
  clear hK K hOld
  try simp only [Act.put, List.setIfInBounds_toArray, List.set_cons_zero, List.set_cons_succ]
  refine wpAnyH_take (i := 6) (oi := { dst := some 48, op := Op.move (Operand.tmp 54), type := 173, pos := "drive.go:165", after := #[{ on := 5, ground := Ground.data }], guard := none }) (v := ?_) rfl (by kernel_rfl) (by kernel_rfl) (by kernel_rfl) (fun _ _ _ h => h) (Or.inl ⟨by kernel_rfl, ?_⟩) hHeld ?_
  rotate_left
  · (intro w hSw; (try dsimp only at hSw); have e0 := cell_of_block ((hSw.block _ (heap_lt X3.out)).trans X3.out) 0; have e1 := cell_of_block ((hSw.block _ (heap_lt X3.out)).trans X3.out) 1; have e2 := cell_of_block ((hSw.block _ (heap_lt X3.out)).trans X3.out) 2; have e3 := cell_of_block ((hSw.block _ (heap_lt X3.out)).trans X3.out) 3; have e4 := cell_of_block ((hSw.block _ (heap_lt X3.out)).trans X3.out) 4; go_simp); try with_reducible rfl
  try simp only [Act.put, List.setIfInBounds_toArray, List.set_cons_zero, List.set_cons_succ]
  refine wpAnyH_take (i := 7) (oi := { dst := some 55, op := Op.extract (Operand.tmp 48) 0, type := 9, pos := "drive.go:165", after := #[{ on := 6, ground := Ground.data }], guard := none }) (v := ?_) rfl (by kernel_rfl) (by kernel_rfl) (by kernel_rfl) (fun _ _ _ h => h) (Or.inl ⟨by kernel_rfl, ?_⟩) hHeld ?_
  rotate_left
  · (intro w hSw; (try dsimp only at hSw); have e0 := cell_of_block ((hSw.block _ (heap_lt X3.out)).trans X3.out) 0; have e1 := cell_of_block ((hSw.block _ (heap_lt X3.out)).trans X3.out) 1; have e2 := cell_of_block ((hSw.block _ (heap_lt X3.out)).trans X3.out) 2; have e3 := cell_of_block ((hSw.block _ (heap_lt X3.out)).trans X3.out) 3; have e4 := cell_of_block ((hSw.block _ (heap_lt X3.out)).trans X3.out) 4; go_simp); try with_reducible rfl
  try simp only [Act.put, List.setIfInBounds_toArray, List.set_cons_zero, List.set_cons_succ]
  refine wpAnyH_take (i := 8) (oi := { dst := some 56, op := Op.extract (Operand.tmp 48) 1, type := 35, pos := "drive.go:165", after := #[{ on := 6, ground := Ground.data }, { on := 9, ground := Ground.gcOnly Departure.lateStores }], guard := none }) (v := ?_) rfl (by kernel_rfl) (by kernel_rfl) (by kernel_rfl) (fun _ _ _ h => h) (Or.inl ⟨by kernel_rfl, ?_⟩) hHeld ?_
  rotate_left
  · (intro w hSw; (try dsimp only at hSw); have e0 := cell_of_block ((hSw.block _ (heap_lt X3.out)).trans X3.out) 0; have e1 := cell_of_block ((hSw.block _ (heap_lt X3.out)).trans X3.out) 1; have e2 := cell_of_block ((hSw.block _ (heap_lt X3.out)).trans X3.out) 2; have e3 := cell_of_block ((hSw.block _ (heap_lt X3.out)).trans X3.out) 3; have e4 := cell_of_block ((hSw.block _ (heap_lt X3.out)).trans X3.out) 4; go_simp); try with_reducible rfl
  try simp only [Act.put, List.setIfInBounds_toArray, List.set_cons_zero, List.set_cons_succ]
  refine wpAnyH_take (i := 9) (oi := { dst := some 12, op := Op.assign (Operand.tmp 55), type := 9, pos := "drive.go:165", after := #[{ on := 7, ground := Ground.data }, { on := 5, ground := Ground.chain }, { on := 0, ground := Ground.phase }, { on := 1, ground := Ground.phase }, { on := 2, ground := Ground.phase }, { on := 3, ground := Ground.phase }, { on := 4, ground := Ground.phase }, { on := 5, ground := Ground.phase }, { on := 6, ground := Ground.phase }, { on := 7, ground := Ground.phase }, { on := 8, ground := Ground.textOnly Departure.lateStores }], guard := none }) (v := ?_) rfl (by kernel_rfl) (by kernel_rfl) (by kernel_rfl) (fun _ _ _ h => h) (Or.inl ⟨by kernel_rfl, ?_⟩) hHeld ?_
  rotate_left
  · (intro w hSw; (try dsimp only at hSw); have e0 := cell_of_block ((hSw.block _ (heap_lt X3.out)).trans X3.out) 0; have e1 := cell_of_block ((hSw.block _ (heap_lt X3.out)).trans X3.out) 1; have e2 := cell_of_block ((hSw.block _ (heap_lt X3.out)).trans X3.out) 2; have e3 := cell_of_block ((hSw.block _ (heap_lt X3.out)).trans X3.out) 3; have e4 := cell_of_block ((hSw.block _ (heap_lt X3.out)).trans X3.out) 4; go_simp); try with_reducible rfl
  try simp only [Act.put, List.setIfInBounds_toArray, List.set_cons_zero, List.set_cons_succ]
  refine wpAnyH_take (i := 10) (oi := { dst := some 13, op := Op.assign (Operand.tmp 56), type := 35, pos := "drive.go:165", after := #[{ on := 8, ground := Ground.data }, { on := 9, ground := Ground.chain }, { on := 0, ground := Ground.phase }, { on := 1, ground := Ground.phase }, { on := 2, ground := Ground.phase }, { on := 3, ground := Ground.phase }, { on := 4, ground := Ground.phase }, { on := 5, ground := Ground.phase }, { on := 6, ground := Ground.phase }, { on := 7, ground := Ground.phase }, { on := 8, ground := Ground.phase }, { on := 9, ground := Ground.phase }], guard := none }) (v := ?_) rfl (by kernel_rfl) (by kernel_rfl) (by kernel_rfl) (fun _ _ _ h => h) (Or.inl ⟨by kernel_rfl, ?_⟩) hHeld ?_
  rotate_left
  · (intro w hSw; (try dsimp only at hSw); have e0 := cell_of_block ((hSw.block _ (heap_lt X3.out)).trans X3.out) 0; have e1 := cell_of_block ((hSw.block _ (heap_lt X3.out)).trans X3.out) 1; have e2 := cell_of_block ((hSw.block _ (heap_lt X3.out)).trans X3.out) 2; have e3 := cell_of_block ((hSw.block _ (heap_lt X3.out)).trans X3.out) 3; have e4 := cell_of_block ((hSw.block _ (heap_lt X3.out)).trans X3.out) 4; go_simp); try with_reducible rfl
  try simp only [Act.put, List.setIfInBounds_toArray, List.set_cons_zero, List.set_cons_succ]
  refine wpAnyH_done (by kernel_rfl) ?_ _
  clear hHeld
  have H5 := hide (H3.out.below B5.out)
  have B6 := hide (B3.out.trans (TurnD.of_below B5.out hqb3))
  have c0 := H5.out.cell0
  clear H3 X3 HF B3 B5 cs3 cp3 HX
  go_wp2_with fail
  refine (HC.out _ H5.out.chip).mono ?_
  rintro e w6 ⟨rfl, hn, ht⟩
  have D6 := hide (H5.out.turn hn ht HD.out.1 HD.out.2.1 HD.out.2.2)
  have B7 := hide (B6.out.trans (TurnD.of_turn ht HBB.out.1))
  clear hn ht HC c0 H5 B6
  have c := D6.out.cellRow
  obtain ⟨a0, a1, f0, f1⟩ := D6.out.at i hi
  have D7 := hide (D6.out.know i hi 1 (by decide) (.int .i64 ((j : Int) + 1)) ⟨false, (j : Int) + 1⟩ (by unfold knC; rw [HBAD.out]; rfl))
  obtain ⟨csr, hcsr⟩ := D6.out.base
  have B8 := hide (B7.out.know hcsr HBB.out.2 (i * 2 + 1) (.int .i64 ((j : Int) + 1)))
  clear hcsr
  clear a0 f0
  generalize (K.getD i kn0).next = xn at *
  go_wp2_with fail
  go_ret2
  exact ⟨rfl, D7.out, B8.out⟩
end
end Go.Proofs.YtjfmkfhjbdiojaaGreat

namespace Go.Proofs.YtjfmkfhjbdiojaaGreat
set_option linter.unusedSimpArgs false
set_option linter.unusedVariables false
open Go.RowKit Go.WideShapes Go.ChangeShapes Go.ChangeAt Go.Deep
/-- a page's cells -/
def pageC (st k l s n m : Int) (t : ByteArray) : Array Value := #[.int .i64 st, .int .u8 k, .int .i64 l, .int .u64 s, .int .i64 n, .int .i64 m, .string t]
theorem page_size (st k l s n m : Int) (t : ByteArray) : (Tryz.prog.info? 49).map (·.size) = some (pageC st k l s n m t).size := by
  show _ = some 7
  kernel_rfl
theorem res_page {fn : Func} {p u : Tmp} (h : fn.results = #[.cell p 49, .tmp u]) (tmps : Array Value) (w : World) (A : Nat) (st k l s n m : Int) (t : ByteArray) (v : Value)
    (hp : tmps.getD p undef = .pointer (some ⟨A, 0, none⟩)) (hu : tmps.getD u undef = v) (hg : w.heap[A]? = some (.cells (pageC st k l s n m t) 49 (0, 0))) : (results fn tmps).run Tryz.prog w = .ok (.tuple #[.agg (pageC st k l s n m t), v]) w := by
  rw [results_cell_tmp h, hp, hu]
  simp [asAddr, Result.andThen, run_loadVar_row w A 49 49 _ _ _ hg Tryz.underlying49 rfl (page_size st k l s n m t)]
theorem page_set {W : World} {A : Nat} {a0 a1 a2 a3 a4 a5 st k l s n m : Int} {y x : ByteArray} {t : TypeId} (h : W.heap[A]? = some (.cells (pageC a0 a1 a2 a3 a4 a5 y) t (0, 0))) :
    (((((((W.setCell ⟨A, 0, none⟩ (.int .i64 st)).setCell ⟨A, 1, none⟩ (.int .u8 k)).setCell ⟨A, 2, none⟩ (.int .i64 l)).setCell ⟨A, 3, none⟩ (.int .u64 s)).setCell ⟨A, 4, none⟩ (.int .i64 n)).setCell ⟨A, 5, none⟩ (.int .i64 m)).setCell ⟨A, 6, none⟩ (.string x)).heap[A]? = some (.cells (pageC st k l s n m x) t (0, 0)) := by
  have h0 : (W.setCell ⟨A, 0, none⟩ (.int .i64 st)).heap[A]? = some (.cells (pageC st a1 a2 a3 a4 a5 y) t (0, 0)) := block_setCell h _ _
  have h1 : ((W.setCell ⟨A, 0, none⟩ (.int .i64 st)).setCell ⟨A, 1, none⟩ (.int .u8 k)).heap[A]? = some (.cells (pageC st k a2 a3 a4 a5 y) t (0, 0)) := block_setCell h0 _ _
  have h2 : (((W.setCell ⟨A, 0, none⟩ (.int .i64 st)).setCell ⟨A, 1, none⟩ (.int .u8 k)).setCell ⟨A, 2, none⟩ (.int .i64 l)).heap[A]? = some (.cells (pageC st k l a3 a4 a5 y) t (0, 0)) := block_setCell h1 _ _
  have h3 : ((((W.setCell ⟨A, 0, none⟩ (.int .i64 st)).setCell ⟨A, 1, none⟩ (.int .u8 k)).setCell ⟨A, 2, none⟩ (.int .i64 l)).setCell ⟨A, 3, none⟩ (.int .u64 s)).heap[A]? = some (.cells (pageC st k l s a4 a5 y) t (0, 0)) := block_setCell h2 _ _
  have h4 : (((((W.setCell ⟨A, 0, none⟩ (.int .i64 st)).setCell ⟨A, 1, none⟩ (.int .u8 k)).setCell ⟨A, 2, none⟩ (.int .i64 l)).setCell ⟨A, 3, none⟩ (.int .u64 s)).setCell ⟨A, 4, none⟩ (.int .i64 n)).heap[A]? = some (.cells (pageC st k l s n a5 y) t (0, 0)) := block_setCell h3 _ _
  have h5 : ((((((W.setCell ⟨A, 0, none⟩ (.int .i64 st)).setCell ⟨A, 1, none⟩ (.int .u8 k)).setCell ⟨A, 2, none⟩ (.int .i64 l)).setCell ⟨A, 3, none⟩ (.int .u64 s)).setCell ⟨A, 4, none⟩ (.int .i64 n)).setCell ⟨A, 5, none⟩ (.int .i64 m)).heap[A]? = some (.cells (pageC st k l s n m y) t (0, 0)) := block_setCell h4 _ _
  exact block_setCell h5 _ _
set_option maxRecDepth 100000 in
set_option maxHeartbeats 400000 in
theorem dread_nil (i j : Int) (w : World) : Calls Tryz.prog 12 #[.pointer none, .int .i64 i, .int .i64 j] w fun e w' => e = .returned (.tuple #[.agg (pageC 0 0 0 0 0 0 ⟨#[]⟩), .int .i64 1]) ∧ Below w.heap.size w w' := by
  go_enter Tryz.func12, Tryz.ntmps12
  go_wp2_with fail
  exact bodyPost_ret (res_page Tryz.results12 _ _ w.heap.size 0 0 0 0 0 0 ⟨#[]⟩ _ rfl rfl (heap_new _ _)) rfl ⟨rfl, (Below.refl _ _).alloc (Nat.le_refl _) _⟩
end Go.Proofs.YtjfmkfhjbdiojaaGreat

namespace Go.Proofs.YtjfmkfhjbdiojaaGreat
set_option linter.unusedSimpArgs false
set_option linter.unusedVariables false
open Go.RowKit Go.WideShapes Go.ChangeShapes Go.ChangeAt Go.Deep
section
variable {w w' : World} {d b p q B : Nat} {G : Nat → Nat} {S S' : ChipM} {K : List KnM}
set_option maxRecDepth 100000 in
set_option maxHeartbeats 400000 in
theorem dread_tag (i j : Int) (k l s n m : Int) (hT : TagOk k l n m) (s0 : 0 ≤ s) (s1 : s ≤ 18446744073709551615) (td : List UInt8) (ht : td.length ≤ 1024) (ha : askE S i j = 0) (hr : readP S i j = (bs td, bs (frameL k l s n m td))) (w : World) (h : DriveAt w d b p q B G S K) :
    Calls Tryz.prog 12 #[.pointer (some ⟨d, 0, none⟩), .int .i64 i, .int .i64 j] w fun e w' => e = .returned (.tuple #[.agg (pageC 4 k l s n m (bs td)), .int .i64 0]) ∧ Below w.heap.size w w' := by
  have hal := (Below.refl w.heap.size w).alloc (Nat.le_refl _) (.cells #[.int .i64 0, .int .u8 0, .int .i64 0, .int .u64 0, .int .i64 0, .int .i64 0, .string ⟨#[]⟩] 49)
  have X := hide (heap_new w (.cells #[.int .i64 0, .int .u8 0, .int .i64 0, .int .u64 0, .int .i64 0, .int .i64 0, .string ⟨#[]⟩] 49))
  have HB := hide hal
  have H := hide (h.below hal)
  have HN := hide (fun W hW => nread_any p q B G S i j W hW)
  rw [ha, hr] at HN
  have HP := hide (fun W hW => parseV_frame k l s n m hT s0 s1 d 4 td (by omega) W hW)
  clear h hal ha hr hT s0 s1 ht
  generalize bs (frameL k l s n m td) = be at *
  generalize bs td = t at *
  have c0 := H.out.cell0
  go_enter Tryz.func12, Tryz.ntmps12
  go_upto_region 1 with (fail)
  generalize w.alloc (.cells #[.int .i64 0, .int .u8 0, .int .i64 0, .int .u64 0, .int .i64 0, .int .i64 0, .string ⟨#[]⟩] 49) = w1 at *
  generalize hq : w.heap.size = q1 at *
  have hq1 := Nat.le_of_lt (Array.getElem?_eq_some_iff.mp X.out).1
  go_wp2_with fail
  refine (HN.out _ H.out.chip).mono ?_
  rintro e w2 ⟨rfl, hb⟩
  have H2 := hide (H.out.below hb)
  have X2 := hide ((hb.block _ (heap_lt X.out)).trans X.out)
  have B2 := hide (HB.out.trans (hb.mono hq1))
  have hq2 : q1 ≤ w2.heap.size := by have := hb.size; omega
  clear H HN X HB hb c0 hq1
  go_wp2_with fail
  refine (HP.out _ H2.out.tab).mono ?_
  rintro e w3 ⟨rfl, hb⟩
  have X3 := hide ((hb.block _ (heap_lt X2.out)).trans X2.out)
  have B3 := hide (B2.out.trans (hb.mono hq2))
  have hq3 : q1 < w3.heap.size := heap_lt X3.out
  clear HP H2 B2 X2 hb hq2
  go_upto_region 8 with (fail)
  have XT := hide (heap_new w3 (.cells #[.int .u8 k, .int .i64 l, .int .u64 s, .int .i64 n, .int .i64 m] 47))
  have hal := (Below.refl w3.heap.size w3).alloc (Nat.le_refl _) (.cells #[.int .u8 k, .int .i64 l, .int .u64 s, .int .i64 n, .int .i64 m] 47)
  have X4 := hide ((hal.block _ hq3).trans X3.out)
  have B4 := hide (B3.out.trans (hal.mono (Nat.le_of_lt hq3)))
  generalize w3.alloc (.cells #[.int .u8 k, .int .i64 l, .int .u64 s, .int .i64 n, .int .i64 m] 47) = w4 at *
  generalize w3.heap.size = q3 at *
  have e0 := cell_of_block XT.out 0
  have e1 := cell_of_block XT.out 1
  have e2 := cell_of_block XT.out 2
  have e3 := cell_of_block XT.out 3
  have e4 := cell_of_block XT.out 4
  have hq4 : q1 < w4.heap.size := heap_lt X4.out
  clear X3 B3 hal
  go_upto_region 10 with (fail)
  clear e0 e1 e2 e3 e4 XT hq3
  have XP := hide (heap_new w4 (.cells #[.int .i64 0, .int .u8 k, .int .i64 l, .int .u64 s, .int .i64 n, .int .i64 m, .string t] 49))
  have hal := (Below.refl w4.heap.size w4).alloc (Nat.le_refl _) (.cells #[.int .i64 0, .int .u8 k, .int .i64 l, .int .u64 s, .int .i64 n, .int .i64 m, .string t] 49)
  have X5 := hide ((hal.block _ hq4).trans X4.out)
  have B5 := hide (B4.out.trans (hal.mono (Nat.le_of_lt hq4)))
  generalize w4.alloc (.cells #[.int .i64 0, .int .u8 k, .int .i64 l, .int .u64 s, .int .i64 n, .int .i64 m, .string t] 49) = w5 at *
  generalize w4.heap.size = q4 at *
  clear X4 B4 hal
  have hne : ¬ q4 = q1 := by omega
  have hne2 : ¬ q1 = q4 := by omega
  have f0 := frozen_of_block XP.out 0
  have c0 : w5.cell? ⟨q4, 0, none⟩ = some (.int .i64 0) := by rw [cell_of_block XP.out]; rfl
  go_upto_region 16 with (fail)
  have XQ := hide (show (w5.setCell ⟨q4, 0, none⟩ (.int .i64 4)).heap[q4]? = some (.cells #[.int .i64 4, .int .u8 k, .int .i64 l, .int .u64 s, .int .i64 n, .int .i64 m, .string t] 49 (0, 0)) from block_setCell XP.out _ _)
  have X6 := hide ((block_setCell_other (w := w5) (g := q4) (b := q1) hne 0 (.int .i64 4)).trans X5.out)
  have B6 := hide (B5.out.setCell (p := ⟨q4, 0, none⟩) (Nat.le_of_lt hq4) (.int .i64 4))
  generalize w5.setCell ⟨q4, 0, none⟩ (.int .i64 4) = w6 at *
  clear X5 B5 XP f0 c0
  have e0 := cell_of_block XQ.out 0
  have e1 := cell_of_block XQ.out 1
  have e2 := cell_of_block XQ.out 2
  have e3 := cell_of_block XQ.out 3
  have e4 := cell_of_block XQ.out 4
  have e5 := cell_of_block XQ.out 5
  have e6 := cell_of_block XQ.out 6
  have g0 := cell_of_block X6.out 0
  have g1 := cell_of_block X6.out 1
  have g2 := cell_of_block X6.out 2
  have g3 := cell_of_block X6.out 3
  have g4 := cell_of_block X6.out 4
  have g5 := cell_of_block X6.out 5
  have g6 := cell_of_block X6.out 6
  have z0 := frozen_of_block X6.out 0
  have z1 := frozen_of_block X6.out 1
  have z2 := frozen_of_block X6.out 2
  have z3 := frozen_of_block X6.out 3
  have z4 := frozen_of_block X6.out 4
  have z5 := frozen_of_block X6.out 5
  have z6 := frozen_of_block X6.out 6
  go_wp2_with fail
  exact bodyPost_ret (res_page Tryz.results12 _ _ q1 4 k l s n m t _ rfl rfl (page_set X6.out)) rfl ⟨rfl, by rw [hq]; exact ((((((B6.out.setCell (p := ⟨q1, 0, none⟩) (Nat.le_refl _) _).setCell (p := ⟨q1, 1, none⟩) (Nat.le_refl _) _).setCell (p := ⟨q1, 2, none⟩) (Nat.le_refl _) _).setCell (p := ⟨q1, 3, none⟩) (Nat.le_refl _) _).setCell (p := ⟨q1, 4, none⟩) (Nat.le_refl _) _).setCell (p := ⟨q1, 5, none⟩) (Nat.le_refl _) _).setCell (p := ⟨q1, 6, none⟩) (Nat.le_refl _) _⟩
end
end Go.Proofs.YtjfmkfhjbdiojaaGreat

namespace Go.Proofs.YtjfmkfhjbdiojaaGreat
set_option linter.unusedSimpArgs false
set_option linter.unusedVariables false
def dw1 : ChipM := newS 4 2 32
def dw2 : ChipM := (eraseT dw1 1).1
theorem dw_ok1 : NandOk dw1 := ⟨by decide +kernel, by decide +kernel, by decide +kernel, by decide +kernel, by decide +kernel, by decide +kernel⟩
theorem dw_few : FewE dw1 := fun k hk => by
  have h4 : k < 4 := hk
  have : k = 0 ∨ k = 1 ∨ k = 2 ∨ k = 3 := by omega
  rcases this with rfl | rfl | rfl | rfl <;> exact ⟨by decide +kernel, by decide +kernel⟩
theorem dw_er : (eraseT dw1 1).2 = 0 := by decide +kernel
theorem dw_dims : DimsSame dw1 dw2 := ⟨by decide +kernel, by decide +kernel, by decide +kernel⟩
theorem dw_ok2 : NandOk dw2 := ⟨by decide +kernel, by decide +kernel, by decide +kernel, by decide +kernel, by decide +kernel, by decide +kernel⟩
theorem dw_pr (d e : ByteArray) (hd : d.size = 32) (he : e.size = 32) : progT dw2 1 0 d e = (progS dw2 1 0 d e, 0) := by
  have hs : dw2.size = 32 := by decide +kernel
  unfold progT
  rw [if_neg (by decide +kernel), if_neg (by rw [hd, he, hs]; decide), if_neg (by decide +kernel)]
  congr 1
theorem dw_dims2 (d e : ByteArray) : DimsSame dw2 (progS dw2 1 0 d e) := ⟨rfl, rfl, rfl⟩
theorem dw_ask (d e : ByteArray) : askE (progS dw2 1 0 d e) 1 0 = 0 := rfl
theorem dw_read (d e : ByteArray) : readP (progS dw2 1 0 d e) 1 0 = (d, e) := rfl
theorem dw_sins (d e : ByteArray) : (progS dw2 1 0 d e).sins = 0 := rfl
theorem dw_off (d e : ByteArray) : dw2.off = false ∧ (progS dw2 1 0 d e).off = false := ⟨rfl, rfl⟩
end Go.Proofs.YtjfmkfhjbdiojaaGreat

namespace Go.Proofs.YtjfmkfhjbdiojaaGreat
set_option linter.unusedSimpArgs false
set_option linter.unusedVariables false
/-- a new drive's cells -/
def drvC (p : Nat) (a b c : Int) (q n : Nat) : Array Value := #[.pointer (some ⟨p, 0, none⟩), .int .i64 a, .int .i64 b, .int .i64 c] ++ tabC 256 ++ #[.slice (some ⟨q, 0, none⟩) n n]
set_option maxRecDepth 100000 in
theorem drv_build (p : Nat) (a b c : Int) (q n : Nat) (w : World) :
    (Instr.build 98 #[(0, .pointer (some ⟨p, 0, none⟩)), (1, .agg #[.int .i64 a, .int .i64 b, .int .i64 c]), (2, .agg (tabC 256)), (3, .slice (some ⟨q, 0, none⟩) n n)]).run Tryz.prog w = .ok (.agg (drvC p a b c q n)) w := by kernel_rfl
end Go.Proofs.YtjfmkfhjbdiojaaGreat

namespace Go.Proofs.YtjfmkfhjbdiojaaGreat
set_option linter.unusedSimpArgs false
set_option linter.unusedVariables false
set_option maxRecDepth 100000 in
theorem drv_box (p : Nat) (a b c : Int) (q n : Nat) (w : World) :
    (Instr.box 98 (.agg (drvC p a b c q n))).run Tryz.prog w = .ok (.pointer (some ⟨w.heap.size, 0, none⟩)) (w.alloc (.cells (drvC p a b c q n) 98)) := by
  generalize hT : drvC p a b c q n = T
  kernel_rfl
theorem drvC_at (p : Nat) (a b c : Int) (q n : Nat) : (drvC p a b c q n)[0]? = some (.pointer (some ⟨p, 0, none⟩)) ∧ (drvC p a b c q n)[1]? = some (.int .i64 a) ∧ (drvC p a b c q n)[2]? = some (.int .i64 b) ∧ (drvC p a b c q n)[3]? = some (.int .i64 c) ∧
    (∀ k, k < 256 → (drvC p a b c q n)[4 + k]? = some (.int .u32 (tabN k : Int))) ∧ (drvC p a b c q n)[260]? = some (.slice (some ⟨q, 0, none⟩) n n) := by
  have hz := tabC_size 256
  unfold drvC
  refine ⟨?_, ?_, ?_, ?_, fun k hk => ?_, ?_⟩
  · rw [Array.append_assoc, Array.getElem?_append_left (by simp)]; rfl
  · rw [Array.append_assoc, Array.getElem?_append_left (by simp)]; rfl
  · rw [Array.append_assoc, Array.getElem?_append_left (by simp)]; rfl
  · rw [Array.append_assoc, Array.getElem?_append_left (by simp)]; rfl
  · rw [Array.getElem?_append_left (by simp [hz]; omega), Array.getElem?_append_right (by simp)]
    have h4 : 4 + k - 4 = k := by omega
    have := tabC_at 256 k hk
    rw [if_pos hk] at this
    simpa [h4] using this
  · rw [Array.getElem?_append_right (by simp [hz])]
    simp [hz]
end Go.Proofs.YtjfmkfhjbdiojaaGreat

namespace Go.Proofs.YtjfmkfhjbdiojaaGreat
set_option linter.unusedSimpArgs false
set_option linter.unusedVariables false
section
variable {P : Program} (w : World) {ops : Array Oper} {rest : List Oper} {o : Oper} {a : Act} {Q : Exit → Act → World → Prop}
theorem wpList_build4 (hg : o.guard = none) (t : TypeId) (x y z u : Operand) (i j k l : Nat) (hop : o.op = Op.build t #[(i, x), (j, y), (k, z), (l, u)]) (x' y' z' u' : Value) (hx : a.eval x = x') (hy : a.eval y = y') (hz : a.eval z = z') (hu : a.eval u = u') (v : Value)
    (hv : (Instr.build t #[(i, x'), (j, y'), (k, z'), (l, u')]).run P w = .ok v w) (hK : wpList P ops Q rest (a.put o.dst v) w) : wpList P ops Q (o :: rest) a w := by
  refine wpList_plain hg fun K' hK' => ?_
  unfold Oper.wp
  simp [execOp, hop, hx, hy, hz, hu, hv, Result.andThen]
  exact hK' _ _ hK
theorem wpList_boxV (hg : o.guard = none) (t : TypeId) (x : Operand) (hop : o.op = Op.box t x) (x' : Value) (hx : a.eval x = x') (v : Value) (w' : World)
    (hv : (Instr.box t x').run P w = .ok v w') (hK : wpList P ops Q rest (a.put o.dst v) w') : wpList P ops Q (o :: rest) a w := by
  refine wpList_plain hg fun K' hK' => ?_
  unfold Oper.wp
  simp [execOp, hop, hx, hv, Result.andThen]
  exact hK' _ _ hK
end
end Go.Proofs.YtjfmkfhjbdiojaaGreat

namespace Go.Proofs.YtjfmkfhjbdiojaaGreat
set_option linter.unusedSimpArgs false
set_option linter.unusedVariables false
open Go.RowKit Go.WideShapes Go.ChangeShapes Go.ChangeAt Go.Deep
section
variable {W : World} {b p q B n : Nat} {G : Nat → Nat} {S : ChipM}
theorem drive_new (hN : NandAt W p q B G S) (hn : S.L.length = n) {cs : Array Value} (hb : W.heap[b]? = some (.cells cs 147 (0, 0))) (hs : cs.size = n * 2) (hc : ∀ k, k < n → cs[k * 2]? = some (.bool false) ∧ cs[k * 2 + 1]? = some (.int .i64 0)) :
    DriveAt (W.alloc (.cells (drvC p (S.L.length : Int) (S.pgs : Int) (S.size : Int) b n) 98)) W.heap.size b p q B G S (List.replicate n kn0) := by
  have hal := (Below.refl W.heap.size W).alloc (Nat.le_refl _) (.cells (drvC p (S.L.length : Int) (S.pgs : Int) (S.size : Int) b n) 98)
  obtain ⟨h0, h1, h2, h3, h4, h5⟩ := drvC_at p (S.L.length : Int) (S.pgs : Int) (S.size : Int) b n
  refine ⟨⟨_, heap_new _ _, h0, h1, h2, h3, h4, ?_⟩, ⟨cs, (hal.block _ (heap_lt hb)).trans hb, ?_, ?_⟩, hN.below hal, ?_⟩
  · rw [List.length_replicate]; exact h5
  · rw [List.length_replicate]; exact hs
  · intro k hk j hj
    rw [List.length_replicate] at hk
    obtain ⟨a0, a1⟩ := hc k hk
    have hg : (List.replicate n kn0).getD k kn0 = kn0 := by simp [List.getD, hk]
    rw [hg]
    have hj2 : j = 0 ∨ j = 1 := by omega
    rcases hj2 with rfl | rfl
    · exact a0
    · exact a1
  · rw [List.length_replicate]; exact hn.symm
end
end Go.Proofs.YtjfmkfhjbdiojaaGreat

namespace Go.Proofs.YtjfmkfhjbdiojaaGreat
set_option linter.unusedSimpArgs false
set_option linter.unusedVariables false
open Go.RowKit Go.WideShapes Go.ChangeShapes Go.ChangeAt Go.Deep
section
variable {P : Program} {o : Oper} {a : Act} {w : World} {K : Act → World → Prop} {Q : Exit → Act → World → Prop}
theorem wp_build4 (t : TypeId) (x y z u : Operand) (i j k l : Nat) (hop : o.op = Op.build t #[(i, x), (j, y), (k, z), (l, u)]) (x' y' z' u' : Value) (hx : a.eval x = x') (hy : a.eval y = y') (hz : a.eval z = z') (hu : a.eval u = u') (v : Value)
    (hv : (Instr.build t #[(i, x'), (j, y'), (k, z'), (l, u')]).run P w = .ok v w) (hK : K (a.put o.dst v) w) : o.wp P a w K Q := by
  unfold Oper.wp
  simp [execOp, hop, hx, hy, hz, hu, hv, Result.andThen]
  exact hK
theorem wp_boxV (t : TypeId) (x : Operand) (hop : o.op = Op.box t x) (x' : Value) (hx : a.eval x = x') (v : Value) (w' : World)
    (hv : (Instr.box t x').run P w = .ok v w') (hK : K (a.put o.dst v) w') : o.wp P a w K Q := by
  unfold Oper.wp
  simp [execOp, hop, hx, hv, Result.andThen]
  exact hK
end
theorem flat_two (n : Nat) : ∀ k, k < n → ((List.replicate n ()).flatMap fun _ => [Value.bool false, Value.int .i64 0])[k * 2]? = some (.bool false) ∧ ((List.replicate n ()).flatMap fun _ => [Value.bool false, Value.int .i64 0])[k * 2 + 1]? = some (.int .i64 0) := by
  induction n with
  | zero => intro k hk; omega
  | succ n ih =>
    intro k hk
    rw [List.replicate_succ, List.flatMap_cons]
    cases k with
    | zero => exact ⟨rfl, rfl⟩
    | succ k =>
      have := ih k (by omega)
      rw [show (k + 1) * 2 = k * 2 + 1 + 1 by omega]
      exact this
theorem made_size (n : Nat) : ((List.replicate n ()).flatMap fun _ => [Value.bool false, Value.int .i64 0]).toArray.size = n * 2 := by
  simp [Nat.mul_comm]
theorem made_at (n : Nat) : ∀ k, k < n → ((List.replicate n ()).flatMap fun _ => [Value.bool false, Value.int .i64 0]).toArray[k * 2]? = some (.bool false) ∧ ((List.replicate n ()).flatMap fun _ => [Value.bool false, Value.int .i64 0]).toArray[k * 2 + 1]? = some (.int .i64 0) := fun k hk => by
  rw [List.getElem?_toArray, List.getElem?_toArray]; exact flat_two n k hk
theorem fgK_zero (n : Nat) : fgK (List.replicate n kn0) (List.replicate n kn0).length = List.replicate n ⟨false, -1⟩ := by
  unfold fgK
  rw [List.take_length, List.drop_length, List.append_nil, List.map_replicate]
  rfl
/-- what New of a chip leaves -/
def DNewIs (p q B : Nat) (G : Nat → Nat) (S : ChipM) (w : World) (e : Ending) (w' : World) : Prop := ∃ d b, e = .returned (.tuple #[.pointer (some ⟨d, 0, none⟩), .int .i64 0]) ∧ DriveAt w' d b p q B G S (List.replicate S.L.length ⟨false, -1⟩) ∧ Below w.heap.size w w' ∧ w.heap.size ≤ b ∧ w.heap.size ≤ d
section
variable {p q B : Nat} {G : Nat → Nat} {S : ChipM}
set_option maxRecDepth 100000 in
set_option maxHeartbeats 400000 in
theorem dnew_go (w : World) (h : NandAt w p q B G S) :
    Calls Tryz.prog 20 #[.pointer (some ⟨p, 0, none⟩)] w (DNewIs p q B G S w) := by
  have hfew := h.few.1
  have HN := hide h
  have HS := hide (fun W hW => shape_any p q B G S W hW)
  have HM := hide (fun W => make_any W)
  have HF := hide (fun (d b : Nat) W (hW : DriveAt W d b p q B G S (List.replicate S.L.length kn0)) => forget_any W hW)
  have hmk := fun W => run_make_rows (P := Tryz.prog) 96 147 (z := .agg #[.bool false, .int .i64 0]) (B := 16) (k := 2) [.bool false, .int .i64 0] Tryz.underlying96 (by kernel_rfl) rfl rfl (by decide) S.L.length (by omega) (by omega) W
  clear h
  go_enter Tryz.func20, Tryz.ntmps20
  go_wp2_with fail
  refine (HS.out _ HN.out).mono ?_
  rintro e w1 ⟨rfl, hb⟩
  have HBW := hide (hb.alloc hb.size (.cells #[.int .i64 (S.L.length : Int), .int .i64 (S.pgs : Int), .int .i64 (S.size : Int)] 64))
  have XS0 := hide (heap_new w1 (.cells #[.int .i64 (S.L.length : Int), .int .i64 (S.pgs : Int), .int .i64 (S.size : Int)] 64))
  clear hb HS
  go_upto_region 4 with (fail)
  generalize w1.alloc (.cells #[.int .i64 (S.L.length : Int), .int .i64 (S.pgs : Int), .int .i64 (S.size : Int)] 64) = w2 at *
  generalize w1.heap.size = sb at *
  go_cut [5] from 10 to 18 (fun s5 W => ∃ d b, s5 = .pointer (some ⟨d, 0, none⟩) ∧ DriveAt W d b p q B G S (List.replicate S.L.length kn0) ∧ Below w.heap.size w W ∧ w.heap.size ≤ b ∧ w.heap.size ≤ d)
  case first =>
    have XS0 := hide (show w2.drew.heap[sb]? = _ from XS0.out)
    have HBW := hide (show Below w.heap.size w w2.drew from HBW.out.drew)
    refine wp_region_held_drew (S := (fun W => Below w2.drew.heap.size w2.drew W)) (by kernel_rfl) (Below.refl _ _) (fun hHeld => ?_)
    generalize w2.drew = v0 at *
    have BL0 := hide (show Below v0.heap.size v0 v0 from Below.refl _ _)
    refine wpAnyH_take (i := 0) (oi := { dst := some 10, op := Op.move (Operand.tmp 0), type := 23, pos := "drive.go:52", after := #[], guard := none }) (v := ?_) rfl (by kernel_rfl) (by kernel_rfl) (by kernel_rfl) (fun _ _ _ h => h) (Or.inl ⟨by kernel_rfl, ?_⟩) hHeld ?_
    rotate_left
    · (intro w hSw; (try dsimp only at hSw); have e0 := cell_of_block ((hSw.block _ (heap_lt XS0.out)).trans XS0.out) 0; have e1 := cell_of_block ((hSw.block _ (heap_lt XS0.out)).trans XS0.out) 1; have e2 := cell_of_block ((hSw.block _ (heap_lt XS0.out)).trans XS0.out) 2; go_simp); try with_reducible rfl
    try simp only [Act.put, List.setIfInBounds_toArray, List.set_cons_zero, List.set_cons_succ]
    refine wpAnyH_take (i := 1) (oi := { dst := some 11, op := Op.load 64 (Operand.tmp 4), type := 64, pos := "drive.go:52", after := #[], guard := none }) (v := ?_) rfl (by kernel_rfl) (by kernel_rfl) (by kernel_rfl) (fun _ _ _ h => h) (Or.inl ⟨by kernel_rfl, ?_⟩) hHeld ?_
    rotate_left
    · (intro w hSw; (try dsimp only at hSw); have e0 := cell_of_block ((hSw.block _ (heap_lt XS0.out)).trans XS0.out) 0; have e1 := cell_of_block ((hSw.block _ (heap_lt XS0.out)).trans XS0.out) 1; have e2 := cell_of_block ((hSw.block _ (heap_lt XS0.out)).trans XS0.out) 2; go_simp); try with_reducible rfl
    try simp only [Act.put, List.setIfInBounds_toArray, List.set_cons_zero, List.set_cons_succ]
    refine wpAnyH_take (i := 3) (oi := { dst := some 13, op := Op.fieldAddr 64 (Operand.tmp 4) 0, type := 0, pos := "drive.go:52", after := #[], guard := none }) (v := ?_) rfl (by kernel_rfl) (by kernel_rfl) (by kernel_rfl) (fun _ _ _ h => h) (Or.inl ⟨by kernel_rfl, ?_⟩) hHeld ?_
    rotate_left
    · (intro w hSw; (try dsimp only at hSw); have e0 := cell_of_block ((hSw.block _ (heap_lt XS0.out)).trans XS0.out) 0; have e1 := cell_of_block ((hSw.block _ (heap_lt XS0.out)).trans XS0.out) 1; have e2 := cell_of_block ((hSw.block _ (heap_lt XS0.out)).trans XS0.out) 2; go_simp); try with_reducible rfl
    try simp only [Act.put, List.setIfInBounds_toArray, List.set_cons_zero, List.set_cons_succ]
    refine wpAnyH_take (i := 4) (oi := { dst := some 14, op := Op.load 3 (Operand.tmp 13), type := 3, pos := "drive.go:52", after := #[{ on := 3, ground := Ground.data }], guard := none }) (v := ?_) rfl (by kernel_rfl) (by kernel_rfl) (by kernel_rfl) (fun _ _ _ h => h) (Or.inl ⟨by kernel_rfl, ?_⟩) hHeld ?_
    rotate_left
    · (intro w hSw; (try dsimp only at hSw); have e0 := cell_of_block ((hSw.block _ (heap_lt XS0.out)).trans XS0.out) 0; have e1 := cell_of_block ((hSw.block _ (heap_lt XS0.out)).trans XS0.out) 1; have e2 := cell_of_block ((hSw.block _ (heap_lt XS0.out)).trans XS0.out) 2; go_simp); try with_reducible rfl
    try simp only [Act.put, List.setIfInBounds_toArray, List.set_cons_zero, List.set_cons_succ]
    refine wpAnyH_ready (rs := [2, 5]) (by kernel_rfl) (by simp) (AllReadyH.cons (o := { dst := some 12, op := Op.call { callee := Callee.value (Operand.func 45), args := #[], argTypes := #[] }, type := 95, pos := "drive.go:52", after := #[], guard := none }) rfl (fun K hK => ?_) (AllReadyH.cons (o := { dst := some 15, op := Op.makeSlice 96 (Operand.tmp 14) (Operand.tmp 14), type := 96, pos := "drive.go:52", after := #[{ on := 4, ground := Ground.data }, { on := 4, ground := Ground.data }], guard := none }) rfl (fun K hK => ?_) AllReadyH.nil))
    · have hOld := hide hHeld
      clear hHeld
      go_simp
      refine (HM.out _).mono ?_
      rintro e v2 ⟨rfl, hb⟩
      have BL2 := hide (BL0.out.trans (hb.mono BL0.out.size))
      clear hb
      (try go_wp2_with fail)
      refine hK.out _ _ (BL2.out) (fun hHeld => ?_)
      clear hK K hOld
      try simp only [Act.put, List.setIfInBounds_toArray, List.set_cons_zero, List.set_cons_succ]
      refine wpAnyH_ready (rs := [5]) (by kernel_rfl) (by simp) (AllReadyH.cons (o := { dst := some 15, op := Op.makeSlice 96 (Operand.tmp 14) (Operand.tmp 14), type := 96, pos := "drive.go:52", after := #[{ on := 4, ground := Ground.data }, { on := 4, ground := Ground.data }], guard := none }) rfl (fun K hK => ?_) AllReadyH.nil)
      have hOld := hide hHeld
      clear hHeld
      go_simp
      try simp only [hmk, Result.andThen]
      obtain ⟨ob, hob⟩ : ∃ ob, ob = Obj.cells ((List.replicate S.L.length ()).flatMap fun _ => [Value.bool false, Value.int .i64 0]).toArray 147 := ⟨_, rfl⟩
      have hal := (Below.refl v2.heap.size v2).alloc (Nat.le_refl _) ob
      have BL5 := hide (BL2.out.trans (hal.mono BL2.out.size))
      have RQ5 := hide (heap_new v2 ob)
      have HQB := hide (show v0.heap.size ≤ v2.heap.size from BL2.out.size)
      clear hal
      try rw [← hob]
      generalize v2.alloc ob = v5 at *
      rw [hob] at RQ5
      clear hob
      (try go_wp2_with fail)
      refine hK.out _ _ (BL5.out) (fun hHeld => ?_)
      clear hK K hOld
      try simp only [Act.put, List.setIfInBounds_toArray, List.set_cons_zero, List.set_cons_succ]
      refine wpAnyH_ready (rs := [6]) (by kernel_rfl) (by simp) (AllReadyH.cons (o := { dst := some 16, op := Op.build 98 #[(0, Operand.tmp 10), (1, Operand.tmp 11), (2, Operand.tmp 12), (3, Operand.tmp 15)], type := 98, pos := "drive.go:52", after := #[{ on := 0, ground := Ground.data }, { on := 1, ground := Ground.data }, { on := 2, ground := Ground.data }, { on := 5, ground := Ground.data }], guard := none }) rfl (fun K hK => ?_) AllReadyH.nil)
      have hOld := hide hHeld
      clear hHeld
      refine wp_build4 98 (.tmp 10) (.tmp 11) (.tmp 12) (.tmp 15) 0 1 2 3 rfl (.pointer (some ⟨p, 0, none⟩)) (.agg #[.int .i64 (S.L.length : Int), .int .i64 (S.pgs : Int), .int .i64 (S.size : Int)]) (.agg (tabC 256)) (.slice (some ⟨v2.heap.size, 0, none⟩) S.L.length S.L.length) rfl rfl rfl rfl (.agg (drvC p (S.L.length : Int) (S.pgs : Int) (S.size : Int) (v2.heap.size) S.L.length)) (drv_build _ _ _ _ _ _ _) ?_
      refine hK.out _ _ (hOld.out) (fun hHeld => ?_)
      clear hK K hOld
      try simp only [Act.put, List.setIfInBounds_toArray, List.set_cons_zero, List.set_cons_succ]
      refine wpAnyH_ready (rs := [7]) (by kernel_rfl) (by simp) (AllReadyH.cons (o := { dst := some 17, op := Op.box 98 (Operand.tmp 16), type := 24, pos := "drive.go:52", after := #[{ on := 6, ground := Ground.data }], guard := none }) rfl (fun K hK => ?_) AllReadyH.nil)
      have hOld := hide hHeld
      clear hHeld
      refine wp_boxV 98 (.tmp 16) rfl (.agg (drvC p (S.L.length : Int) (S.pgs : Int) (S.size : Int) (v2.heap.size) S.L.length)) rfl (.pointer (some ⟨v5.heap.size, 0, none⟩)) (v5.alloc (.cells (drvC p (S.L.length : Int) (S.pgs : Int) (S.size : Int) (v2.heap.size) S.L.length) 98)) (drv_box _ _ _ _ _ _ _) ?_
      have DN := hide (drive_new (HN.out.below (HBW.out.trans (BL5.out.mono HBW.out.size))) rfl RQ5.out (made_size S.L.length) (made_at S.L.length))
      have BL7 := hide (BL5.out.alloc BL5.out.size (.cells (drvC p (S.L.length : Int) (S.pgs : Int) (S.size : Int) (v2.heap.size) S.L.length) 98))
      have HDB := hide (show v0.heap.size ≤ v5.heap.size from BL5.out.size)
      generalize v5.alloc (.cells (drvC p (S.L.length : Int) (S.pgs : Int) (S.size : Int) (v2.heap.size) S.L.length) 98) = v7 at *
      refine hK.out _ _ (BL7.out) (fun hHeld => ?_)
      clear hK K hOld
      try simp only [Act.put, List.setIfInBounds_toArray, List.set_cons_zero, List.set_cons_succ]
      refine wpAnyH_take (i := 8) (oi := { dst := some 5, op := Op.assign (Operand.tmp 17), type := 24, pos := "drive.go:52", after := #[{ on := 7, ground := Ground.data }, { on := 2, ground := Ground.chain }, { on := 0, ground := Ground.phase }, { on := 1, ground := Ground.phase }, { on := 2, ground := Ground.phase }, { on := 3, ground := Ground.phase }, { on := 4, ground := Ground.phase }, { on := 5, ground := Ground.phase }, { on := 6, ground := Ground.phase }, { on := 7, ground := Ground.phase }], guard := none }) (v := ?_) rfl (by kernel_rfl) (by kernel_rfl) (by kernel_rfl) (fun _ _ _ h => h) (Or.inl ⟨by kernel_rfl, ?_⟩) hHeld ?_
      rotate_left
      · (intro w hSw; (try dsimp only at hSw); have e0 := cell_of_block ((hSw.block _ (heap_lt XS0.out)).trans XS0.out) 0; have e1 := cell_of_block ((hSw.block _ (heap_lt XS0.out)).trans XS0.out) 1; have e2 := cell_of_block ((hSw.block _ (heap_lt XS0.out)).trans XS0.out) 2; go_simp); try with_reducible rfl
      try simp only [Act.put, List.setIfInBounds_toArray, List.set_cons_zero, List.set_cons_succ]
      refine wpAnyH_done (by kernel_rfl) ?_ _
      clear hHeld
      go_wp2_with fail
      go_meet
      exact ⟨_, _, rfl, DN.out, HBW.out.trans (BL7.out.mono HBW.out.size), Nat.le_trans HBW.out.size HQB.out, Nat.le_trans HBW.out.size HDB.out⟩
    · have hOld := hide hHeld
      clear hHeld
      go_simp
      try simp only [hmk, Result.andThen]
      obtain ⟨ob, hob⟩ : ∃ ob, ob = Obj.cells ((List.replicate S.L.length ()).flatMap fun _ => [Value.bool false, Value.int .i64 0]).toArray 147 := ⟨_, rfl⟩
      have hal := (Below.refl v0.heap.size v0).alloc (Nat.le_refl _) ob
      have BL5 := hide (BL0.out.trans (hal.mono BL0.out.size))
      have RQ5 := hide (heap_new v0 ob)
      have HQB := hide (show v0.heap.size ≤ v0.heap.size from BL0.out.size)
      clear hal
      try rw [← hob]
      generalize v0.alloc ob = v5 at *
      rw [hob] at RQ5
      clear hob
      (try go_wp2_with fail)
      refine hK.out _ _ (BL5.out) (fun hHeld => ?_)
      clear hK K hOld
      try simp only [Act.put, List.setIfInBounds_toArray, List.set_cons_zero, List.set_cons_succ]
      refine wpAnyH_ready (rs := [2]) (by kernel_rfl) (by simp) (AllReadyH.cons (o := { dst := some 12, op := Op.call { callee := Callee.value (Operand.func 45), args := #[], argTypes := #[] }, type := 95, pos := "drive.go:52", after := #[], guard := none }) rfl (fun K hK => ?_) AllReadyH.nil)
      have hOld := hide hHeld
      clear hHeld
      go_simp
      refine (HM.out _).mono ?_
      rintro e v2 ⟨rfl, hb⟩
      have BL2 := hide (BL5.out.trans (hb.mono BL5.out.size))
      have RQ2 := hide ((hb.block _ (heap_lt RQ5.out)).trans RQ5.out)
      clear hb
      (try go_wp2_with fail)
      refine hK.out _ _ (BL2.out) (fun hHeld => ?_)
      clear hK K hOld
      try simp only [Act.put, List.setIfInBounds_toArray, List.set_cons_zero, List.set_cons_succ]
      refine wpAnyH_ready (rs := [6]) (by kernel_rfl) (by simp) (AllReadyH.cons (o := { dst := some 16, op := Op.build 98 #[(0, Operand.tmp 10), (1, Operand.tmp 11), (2, Operand.tmp 12), (3, Operand.tmp 15)], type := 98, pos := "drive.go:52", after := #[{ on := 0, ground := Ground.data }, { on := 1, ground := Ground.data }, { on := 2, ground := Ground.data }, { on := 5, ground := Ground.data }], guard := none }) rfl (fun K hK => ?_) AllReadyH.nil)
      have hOld := hide hHeld
      clear hHeld
      refine wp_build4 98 (.tmp 10) (.tmp 11) (.tmp 12) (.tmp 15) 0 1 2 3 rfl (.pointer (some ⟨p, 0, none⟩)) (.agg #[.int .i64 (S.L.length : Int), .int .i64 (S.pgs : Int), .int .i64 (S.size : Int)]) (.agg (tabC 256)) (.slice (some ⟨v0.heap.size, 0, none⟩) S.L.length S.L.length) rfl rfl rfl rfl (.agg (drvC p (S.L.length : Int) (S.pgs : Int) (S.size : Int) (v0.heap.size) S.L.length)) (drv_build _ _ _ _ _ _ _) ?_
      refine hK.out _ _ (hOld.out) (fun hHeld => ?_)
      clear hK K hOld
      try simp only [Act.put, List.setIfInBounds_toArray, List.set_cons_zero, List.set_cons_succ]
      refine wpAnyH_ready (rs := [7]) (by kernel_rfl) (by simp) (AllReadyH.cons (o := { dst := some 17, op := Op.box 98 (Operand.tmp 16), type := 24, pos := "drive.go:52", after := #[{ on := 6, ground := Ground.data }], guard := none }) rfl (fun K hK => ?_) AllReadyH.nil)
      have hOld := hide hHeld
      clear hHeld
      refine wp_boxV 98 (.tmp 16) rfl (.agg (drvC p (S.L.length : Int) (S.pgs : Int) (S.size : Int) (v0.heap.size) S.L.length)) rfl (.pointer (some ⟨v2.heap.size, 0, none⟩)) (v2.alloc (.cells (drvC p (S.L.length : Int) (S.pgs : Int) (S.size : Int) (v0.heap.size) S.L.length) 98)) (drv_box _ _ _ _ _ _ _) ?_
      have DN := hide (drive_new (HN.out.below (HBW.out.trans (BL2.out.mono HBW.out.size))) rfl RQ2.out (made_size S.L.length) (made_at S.L.length))
      have BL7 := hide (BL2.out.alloc BL2.out.size (.cells (drvC p (S.L.length : Int) (S.pgs : Int) (S.size : Int) (v0.heap.size) S.L.length) 98))
      have HDB := hide (show v0.heap.size ≤ v2.heap.size from BL2.out.size)
      generalize v2.alloc (.cells (drvC p (S.L.length : Int) (S.pgs : Int) (S.size : Int) (v0.heap.size) S.L.length) 98) = v7 at *
      refine hK.out _ _ (BL7.out) (fun hHeld => ?_)
      clear hK K hOld
      try simp only [Act.put, List.setIfInBounds_toArray, List.set_cons_zero, List.set_cons_succ]
      refine wpAnyH_take (i := 8) (oi := { dst := some 5, op := Op.assign (Operand.tmp 17), type := 24, pos := "drive.go:52", after := #[{ on := 7, ground := Ground.data }, { on := 2, ground := Ground.chain }, { on := 0, ground := Ground.phase }, { on := 1, ground := Ground.phase }, { on := 2, ground := Ground.phase }, { on := 3, ground := Ground.phase }, { on := 4, ground := Ground.phase }, { on := 5, ground := Ground.phase }, { on := 6, ground := Ground.phase }, { on := 7, ground := Ground.phase }], guard := none }) (v := ?_) rfl (by kernel_rfl) (by kernel_rfl) (by kernel_rfl) (fun _ _ _ h => h) (Or.inl ⟨by kernel_rfl, ?_⟩) hHeld ?_
      rotate_left
      · (intro w hSw; (try dsimp only at hSw); have e0 := cell_of_block ((hSw.block _ (heap_lt XS0.out)).trans XS0.out) 0; have e1 := cell_of_block ((hSw.block _ (heap_lt XS0.out)).trans XS0.out) 1; have e2 := cell_of_block ((hSw.block _ (heap_lt XS0.out)).trans XS0.out) 2; go_simp); try with_reducible rfl
      try simp only [Act.put, List.setIfInBounds_toArray, List.set_cons_zero, List.set_cons_succ]
      refine wpAnyH_done (by kernel_rfl) ?_ _
      clear hHeld
      go_wp2_with fail
      go_meet
      exact ⟨_, _, rfl, DN.out, HBW.out.trans (BL7.out.mono HBW.out.size), Nat.le_trans HBW.out.size HQB.out, Nat.le_trans HBW.out.size HDB.out⟩
  case rest =>
    obtain ⟨d, b, rfl, hd, hbl, h1, h2⟩ := hcut
    have DN := hide hd
    have BL := hide hbl
    have HLE := hide (And.intro h1 h2)
    clear hd hbl h1 h2
    go_wp2_with fail
    refine (HF.out d b _ DN.out).mono ?_
    rintro e w3 ⟨rfl, hd, ho⟩
    rw [fgK_zero] at hd
    have BL3 := hide (ho.below BL.out HLE.out.1 BL.out.size)
    clear ho
    go_wp2_with fail
    go_ret2
    exact ⟨d, b, rfl, hd, BL3.out, HLE.out⟩
end
end Go.Proofs.YtjfmkfhjbdiojaaGreat

namespace Go.Proofs.YtjfmkfhjbdiojaaGreat
set_option linter.unusedSimpArgs false
set_option linter.unusedVariables false
open Go.RowKit
structure Heal (S : ChipM) (N : Int) : Prop where
  size : S.size ≤ 1024
  torn : S.torn.size ≤ 1000000
  progs : 0 ≤ S.progs ∧ S.progs ≤ N
  eras : 0 ≤ S.eras ∧ S.eras ≤ N
  sins : S.sins = 0
  fuse : S.fuse = 0
  off : S.off = false
  pgs : 1 ≤ S.pgs
  blk : ∀ k, k < S.L.length → (S.blk k).weak = false ∧ (S.blk k).mill = false ∧ (S.blk k).failed = false ∧ 0 ≤ (S.blk k).erased ∧ (S.blk k).erased ≤ N
theorem Heal.ok {S : ChipM} {N : Int} (h : Heal S N) (hN : N ≤ 1000000) : NandOk S :=
  ⟨h.size, h.torn, ⟨h.progs.1, by have := h.progs.2; omega⟩, ⟨h.eras.1, by have := h.eras.2; omega⟩, by rw [h.sins]; omega, by rw [h.fuse]; omega⟩
theorem Heal.few {S : ChipM} {N : Int} (h : Heal S N) (hN : N ≤ 1000000) : FewE S := fun k hk => by
  obtain ⟨-, -, -, h1, h2⟩ := h.blk k hk
  exact ⟨h1, by omega⟩
theorem Heal.sin {S : ChipM} {N : Int} (h : Heal S N) (k : Nat) (hk : k < S.L.length) : sinE (S.blk k) false = 0 := by
  obtain ⟨-, h2, h3, -, -⟩ := h.blk k hk
  unfold sinE
  rw [h2, h3]
  simp
theorem Heal.mono {S : ChipM} {N M : Int} (h : Heal S N) (hN : N ≤ M) : Heal S M :=
  ⟨h.size, h.torn, ⟨h.progs.1, by have := h.progs.2; omega⟩, ⟨h.eras.1, by have := h.eras.2; omega⟩, h.sins, h.fuse, h.off, h.pgs, fun k hk => by
    obtain ⟨h1, h2, h3, h4, h5⟩ := h.blk k hk
    exact ⟨h1, h2, h3, h4, by omega⟩⟩
theorem cut_same {S : ChipM} (h : S.fuse = 0) : cutS S = S := if_pos h
theorem new_heal (b p s : Nat) (hp : 1 ≤ p) (hs : s ≤ 1024) : Heal (newS b p s) 0 :=
  ⟨hs, by show (0 : Nat) ≤ _; omega, ⟨by show (0 : Int) ≤ 0; omega, by show (0 : Int) ≤ 0; omega⟩, ⟨by show (0 : Int) ≤ 0; omega, by show (0 : Int) ≤ 0; omega⟩, rfl, rfl, rfl, hp, fun k hk => by
    rw [newS_len] at hk
    rw [newS_blk b p s k hk]
    exact ⟨rfl, rfl, rfl, by show (0 : Int) ≤ 0; omega, by show (0 : Int) ≤ 0; omega⟩⟩
/-- a block is erased -/
def wipedB (S : ChipM) (k : Nat) : BlkM := { S.blk k with pages := wipeP S.blank (S.blk k).pages S.pgs, next := 0, erased := (S.blk k).erased + 1 }
theorem erase_is {S : ChipM} {N : Int} (h : Heal S N) (k : Nat) (hk : k < S.L.length) : erasedS S k = (erasS S).put k (wipedB S k) := by
  have h1 : cutS (erasS S) = erasS S := cut_same h.fuse
  unfold erasedS
  rw [h1]
  dsimp only
  rw [if_neg (by rw [(h.blk k hk).1]; decide)]
  rfl
theorem erase_yes {S : ChipM} {N : Int} (h : Heal S N) (k : Nat) (hk : k < S.L.length) : eraseT S (k : Int) = (erasedS S k, 0) := by
  unfold eraseT
  rw [if_neg (fun hh => hh (askE_yes h.off hk (show 0 < S.pgs from h.pgs))), Int.toNat_natCast, if_neg (fun hh => hh (h.sin k hk)), if_neg (by rw [h.fuse]; decide)]
  unfold erasedE
  rw [if_neg (by rw [(h.blk k hk).1]; decide)]
theorem put_blk (S : ChipM) (k : Nat) (b : BlkM) (hk : k < S.L.length) (i : Nat) : (S.put k b).blk i = if i = k then b else S.blk i := by
  by_cases e : i = k
  · subst e; rw [if_pos rfl]; exact blk_put_self S i b hk
  · rw [if_neg e]; exact blk_put_other S k i b e
theorem erase_blk {S : ChipM} {N : Int} (h : Heal S N) (k : Nat) (hk : k < S.L.length) (i : Nat) : (erasedS S k).blk i = if i = k then wipedB S k else S.blk i := by
  rw [erase_is h k hk]
  exact put_blk (erasS S) k _ hk i
theorem erase_dims {S : ChipM} {N : Int} (h : Heal S N) (k : Nat) (hk : k < S.L.length) : DimsSame S (erasedS S k) := by
  rw [erase_is h k hk]
  exact ⟨List.length_set, rfl, rfl⟩
theorem erase_heal {S : ChipM} {N : Int} (h : Heal S N) (k : Nat) (hk : k < S.L.length) : Heal (erasedS S k) (N + 1) := by
  have hb := erase_blk h k hk
  have hd := erase_dims h k hk
  have e : (erasedS S k).torn = S.torn ∧ (erasedS S k).progs = S.progs ∧ (erasedS S k).eras = S.eras + 1 ∧ (erasedS S k).sins = S.sins ∧ (erasedS S k).fuse = S.fuse ∧ (erasedS S k).off = S.off := by
    rw [erase_is h k hk]
    exact ⟨rfl, rfl, rfl, rfl, rfl, rfl⟩
  obtain ⟨e1, e2, e3, e4, e5, e6⟩ := e
  refine ⟨by rw [hd.2.2]; exact h.size, by rw [e1]; exact h.torn, by rw [e2]; have := h.progs; omega, by rw [e3]; have := h.eras; omega, by rw [e4]; exact h.sins, by rw [e5]; exact h.fuse, by rw [e6]; exact h.off, by rw [hd.2.1]; exact h.pgs, fun i hi => ?_⟩
  rw [hd.1] at hi
  rw [hb]
  obtain ⟨h1, h2, h3, h4, h5⟩ := h.blk k hk
  split
  · exact ⟨h1, h2, h3, by show 0 ≤ (S.blk k).erased + 1; omega, by show (S.blk k).erased + 1 ≤ N + 1; omega⟩
  · obtain ⟨h1, h2, h3, h4, h5⟩ := h.blk i hi
    exact ⟨h1, h2, h3, h4, by omega⟩
/-- a page is programmed -/
def laidB (S : ChipM) (k i : Nat) (d e : ByteArray) : BlkM := { S.blk k with pages := (S.blk k).pages.set i (d, e), next := (i : Int) + 1 }
theorem prog_is {S : ChipM} {N : Int} (h : Heal S N) (k : Nat) (hk : k < S.L.length) (i : Nat) (d e : ByteArray) : progS S k i d e = (progsS (S.put k { S.blk k with next := (i : Int) + 1 })).put k (laidB S k i d e) := by
  have h1 : cutS (progsS (S.put k { S.blk k with next := (i : Int) + 1 })) = progsS (S.put k { S.blk k with next := (i : Int) + 1 }) := cut_same h.fuse
  have h2 : (progsS (S.put k { S.blk k with next := (i : Int) + 1 })).blk k = { S.blk k with next := (i : Int) + 1 } := blk_put_self S k _ hk
  unfold progS
  rw [h1]
  dsimp only
  rw [if_neg (by rw [h.fuse]; decide), if_neg (by rw [(h.blk k hk).1]; decide), h2]
  rfl
theorem prog_yes {S : ChipM} {N : Int} (h : Heal S N) (k i : Nat) (hk : k < S.L.length) (hi : i < S.pgs) (hn : (S.blk k).next = (i : Int)) (d e : ByteArray) (hd : d.size = S.size) (he : e.size = 32) : progT S (k : Int) (i : Int) d e = (progS S k i d e, 0) := by
  unfold progT
  rw [if_neg (fun hh => hh (askE_yes h.off hk hi)), if_neg (by rw [hd, he]; simp), Int.toNat_natCast, Int.toNat_natCast, show decide ((i : Int) ≠ (S.blk k).next) = false from decide_eq_false (fun hh => hh hn.symm), if_neg (fun hh => hh (h.sin k hk))]
  unfold progE
  rw [if_neg (by rw [h.fuse]; decide), if_neg (by rw [(h.blk k hk).1]; decide)]
theorem prog_blk {S : ChipM} {N : Int} (h : Heal S N) (k : Nat) (hk : k < S.L.length) (i : Nat) (d e : ByteArray) (j : Nat) : (progS S k i d e).blk j = if j = k then laidB S k i d e else S.blk j := by
  rw [prog_is h k hk]
  rw [put_blk _ k _ (by show k < (S.put k _).L.length; rw [put_length]; exact hk)]
  split
  · rfl
  · next hh => exact blk_put_other S k j _ hh
theorem prog_dims {S : ChipM} {N : Int} (h : Heal S N) (k : Nat) (hk : k < S.L.length) (i : Nat) (d e : ByteArray) : DimsSame S (progS S k i d e) := by
  rw [prog_is h k hk]
  refine ⟨?_, rfl, rfl⟩
  rw [put_length]
  exact put_length S k _
theorem prog_heal {S : ChipM} {N : Int} (h : Heal S N) (k : Nat) (hk : k < S.L.length) (i : Nat) (d e : ByteArray) : Heal (progS S k i d e) (N + 1) := by
  have hb := prog_blk h k hk i d e
  have hd := prog_dims h k hk i d e
  have q : (progS S k i d e).torn = S.torn ∧ (progS S k i d e).progs = S.progs + 1 ∧ (progS S k i d e).eras = S.eras ∧ (progS S k i d e).sins = S.sins ∧ (progS S k i d e).fuse = S.fuse ∧ (progS S k i d e).off = S.off := by
    rw [prog_is h k hk]
    exact ⟨rfl, rfl, rfl, rfl, rfl, rfl⟩
  obtain ⟨e1, e2, e3, e4, e5, e6⟩ := q
  refine ⟨by rw [hd.2.2]; exact h.size, by rw [e1]; exact h.torn, by rw [e2]; have := h.progs; omega, by rw [e3]; have := h.eras; omega, by rw [e4]; exact h.sins, by rw [e5]; exact h.fuse, by rw [e6]; exact h.off, by rw [hd.2.1]; exact h.pgs, fun j hj => ?_⟩
  rw [hd.1] at hj
  rw [hb]
  split
  · obtain ⟨h1, h2, h3, h4, h5⟩ := h.blk k hk
    exact ⟨h1, h2, h3, h4, by show (S.blk k).erased ≤ N + 1; omega⟩
  · obtain ⟨h1, h2, h3, h4, h5⟩ := h.blk j hj
    exact ⟨h1, h2, h3, h4, by omega⟩
end Go.Proofs.YtjfmkfhjbdiojaaGreat

namespace Go.Proofs.YtjfmkfhjbdiojaaGreat
set_option linter.unusedSimpArgs false
set_option linter.unusedVariables false
open Go.RowKit

/-- a pool lies at block p, its blocks' states and wears at block q -/
structure PoolAt (w : World) (p q : Nat) (L : List (Int × Int)) : Prop where
  head : w.heap[p]? = some (.cells #[.slice (some ⟨q, 0, none⟩) L.length L.length] 115 (0, 0))
  row : w.heap[q]? = some (.cells (flat2 L).toArray 117 (0, 0))
  ne : p ≠ q
theorem PoolAt.below {w w' : World} {p q : Nat} {L : List (Int × Int)} (h : PoolAt w p q L) (hb : Below w.heap.size w w') : PoolAt w' p q L :=
  ⟨by rw [hb.block p (heap_lt h.head)]; exact h.head, by rw [hb.block q (heap_lt h.row)]; exact h.row, h.ne⟩
theorem PoolAt.drew {w : World} {p q : Nat} {L : List (Int × Int)} (h : PoolAt w p q L) : PoolAt w.drew p q L := ⟨h.head, h.row, h.ne⟩
theorem PoolAt.cells {w : World} {p q : Nat} {L : List (Int × Int)} (h : PoolAt w p q L) :
    w.cell? ⟨p, 0, none⟩ = some (.slice (some ⟨q, 0, none⟩) L.length L.length) ∧ w.frozen? ⟨p, 0, none⟩ = false := ⟨by rw [cell_of_block h.head]; rfl, frozen_of_block h.head 0⟩
theorem PoolAt.at {w : World} {p q : Nat} {L : List (Int × Int)} (h : PoolAt w p q L) (i : Nat) (hi : i < L.length) :
    w.cell? ⟨q, i * 2, none⟩ = some (.int .i64 (L.getD i (0, 0)).1) ∧ w.cell? ⟨q, i * 2 + 1, none⟩ = some (.int .i64 (L.getD i (0, 0)).2) ∧ w.frozen? ⟨q, i * 2, none⟩ = false ∧ w.frozen? ⟨q, i * 2 + 1, none⟩ = false :=
  ⟨by rw [cell_of_block h.row]; simpa using flat2_fst L i hi, by rw [cell_of_block h.row]; simpa using flat2_snd L i hi, frozen_of_block h.row _, frozen_of_block h.row _⟩
theorem PoolAt.setFst {w : World} {p q : Nat} {L : List (Int × Int)} (h : PoolAt w p q L) (i : Nat) (hi : i < L.length) (v : Int) : PoolAt (w.setCell ⟨q, i * 2, none⟩ (.int .i64 v)) p q (L.set i (v, (L.getD i (0, 0)).2)) :=
  ⟨by rw [block_setCell_other (Ne.symm h.ne), h.head]; simp, by rw [block_setCell h.row, ← flat2_set_fst L i v hi]; simp, h.ne⟩
theorem PoolAt.setSnd {w : World} {p q : Nat} {L : List (Int × Int)} (h : PoolAt w p q L) (i : Nat) (hi : i < L.length) (v : Int) : PoolAt (w.setCell ⟨q, i * 2 + 1, none⟩ (.int .i64 v)) p q (L.set i ((L.getD i (0, 0)).1, v)) :=
  ⟨by rw [block_setCell_other (Ne.symm h.ne), h.head]; simp, by rw [block_setCell h.row, ← flat2_set_snd L i v hi]; simp, h.ne⟩

theorem pat_nil (i : Int) (w : World) : Calls Tryz.prog 84 #[.pointer none, .int .i64 i] w fun e w' => e = .returned (.tuple #[.pointer none, .int .i64 1]) ∧ w = w' := by
  go_enter Tryz.func84, Tryz.ntmps84
  go_wp2
  go_ret2
  exact ⟨rfl, rfl⟩
theorem pat_no (p q : Nat) (L : List (Int × Int)) (i : Int) (hi : i < 0 ∨ (L.length : Int) ≤ i) (w : World) (h : PoolAt w p q L) :
    Calls Tryz.prog 84 #[.pointer (some ⟨p, 0, none⟩), .int .i64 i] w fun e w' => e = .returned (.tuple #[.pointer none, .int .i64 3]) ∧ w = w' := by
  obtain ⟨c0, _⟩ := h.cells
  rcases hi with hi | hi
  · go_enter Tryz.func84, Tryz.ntmps84
    go_wp2
    go_ret2
    exact ⟨rfl, rfl⟩
  · have h0 : ¬ i < 0 := by omega
    go_enter Tryz.func84, Tryz.ntmps84
    go_wp2
    go_ret2
    exact ⟨rfl, rfl⟩
theorem pat_yes (p q : Nat) (L : List (Int × Int)) (i : Nat) (hi : i < L.length) (w : World) (h : PoolAt w p q L) :
    Calls Tryz.prog 84 #[.pointer (some ⟨p, 0, none⟩), .int .i64 (i : Int)] w fun e w' => e = .returned (.tuple #[.pointer (some ⟨q, i * 2, none⟩), .int .i64 0]) ∧ w = w' := by
  obtain ⟨c0, _⟩ := h.cells
  go_enter Tryz.func84, Tryz.ntmps84
  go_wp2
  go_ret2
  exact ⟨rfl, rfl⟩

/-- which number a block has, of a pool: nobody's: 0 -/
def fstZ (L : List (Int × Int)) (i : Int) : Int := if 0 ≤ i ∧ i < L.length then (L.getD i.toNat (0, 0)).1 else 0
def sndZ (L : List (Int × Int)) (i : Int) : Int := if 0 ≤ i ∧ i < L.length then (L.getD i.toNat (0, 0)).2 else 0
theorem state_any (p q : Nat) (L : List (Int × Int)) (i : Int) (w : World) (h : PoolAt w p q L) :
    Calls Tryz.prog 50 #[.pointer (some ⟨p, 0, none⟩), .int .i64 i] w fun e w' => e = .returned (.int .i64 (fstZ L i)) ∧ w = w' := by
  have H := hide h
  by_cases hi : 0 ≤ i ∧ i < L.length
  · obtain ⟨i0, i1⟩ := hi
    obtain ⟨n, rfl⟩ := Int.eq_ofNat_of_zero_le i0
    have hn : n < L.length := by omega
    obtain ⟨c0, c1, _, _⟩ := h.at n hn
    have HZ := hide (show (L.getD n (0, 0)).1 = fstZ L n by rw [fstZ, if_pos ⟨i0, i1⟩, Int.toNat_natCast])
    generalize (L.getD n (0, 0)).1 = x at *
    generalize fstZ L n = z at *
    clear h
    go_enter Tryz.func50, Tryz.ntmps50
    go_wp2_with fail
    refine (pat_yes p q L n hn _ H.out).mono ?_
    rintro e w1 ⟨rfl, rfl⟩
    go_wp2
    go_ret
    exact ⟨ret_int HZ.out, rfl⟩
  · have HZ := hide (show 0 = fstZ L i by rw [fstZ, if_neg hi])
    generalize fstZ L i = z at *
    have hi' : i < 0 ∨ (L.length : Int) ≤ i := by omega
    clear h hi
    go_enter Tryz.func50, Tryz.ntmps50
    go_wp2_with fail
    refine (pat_no p q L i hi' _ H.out).mono ?_
    rintro e w1 ⟨rfl, rfl⟩
    go_wp2
    go_ret
    exact ⟨ret_int HZ.out, rfl⟩
theorem state_nil (i : Int) (w : World) : Calls Tryz.prog 50 #[.pointer none, .int .i64 i] w fun e w' => e = .returned (.int .i64 0) ∧ w = w' := by
  go_enter Tryz.func50, Tryz.ntmps50
  go_wp2_with fail
  refine (pat_nil i _).mono ?_
  rintro e w1 ⟨rfl, rfl⟩
  go_wp2
  go_ret
  exact ⟨rfl, rfl⟩
theorem wear_any (p q : Nat) (L : List (Int × Int)) (i : Int) (w : World) (h : PoolAt w p q L) :
    Calls Tryz.prog 55 #[.pointer (some ⟨p, 0, none⟩), .int .i64 i] w fun e w' => e = .returned (.int .i64 (sndZ L i)) ∧ w = w' := by
  have H := hide h
  by_cases hi : 0 ≤ i ∧ i < L.length
  · obtain ⟨i0, i1⟩ := hi
    obtain ⟨n, rfl⟩ := Int.eq_ofNat_of_zero_le i0
    have hn : n < L.length := by omega
    obtain ⟨c0, c1, _, _⟩ := h.at n hn
    have HZ := hide (show (L.getD n (0, 0)).2 = sndZ L n by rw [sndZ, if_pos ⟨i0, i1⟩, Int.toNat_natCast])
    generalize (L.getD n (0, 0)).2 = x at *
    generalize sndZ L n = z at *
    clear h
    go_enter Tryz.func55, Tryz.ntmps55
    go_wp2_with fail
    refine (pat_yes p q L n hn _ H.out).mono ?_
    rintro e w1 ⟨rfl, rfl⟩
    go_wp2
    go_ret
    exact ⟨ret_int HZ.out, rfl⟩
  · have HZ := hide (show 0 = sndZ L i by rw [sndZ, if_neg hi])
    generalize sndZ L i = z at *
    have hi' : i < 0 ∨ (L.length : Int) ≤ i := by omega
    clear h hi
    go_enter Tryz.func55, Tryz.ntmps55
    go_wp2_with fail
    refine (pat_no p q L i hi' _ H.out).mono ?_
    rintro e w1 ⟨rfl, rfl⟩
    go_wp2
    go_ret
    exact ⟨ret_int HZ.out, rfl⟩
theorem wear_nil (i : Int) (w : World) : Calls Tryz.prog 55 #[.pointer none, .int .i64 i] w fun e w' => e = .returned (.int .i64 0) ∧ w = w' := by
  go_enter Tryz.func55, Tryz.ntmps55
  go_wp2_with fail
  refine (pat_nil i _).mono ?_
  rintro e w1 ⟨rfl, rfl⟩
  go_wp2
  go_ret
  exact ⟨rfl, rfl⟩

/-- Set: the error's number, and the blocks behind it -/
def setE (L : List (Int × Int)) (i s : Int) : Int := if 0 ≤ i ∧ i < L.length then (if s < 1 ∨ 3 < s then 2 else if (L.getD i.toNat (0, 0)).1 = 3 then 12 else 0) else 3
def setL (L : List (Int × Int)) (i s : Int) : List (Int × Int) := if setE L i s = 0 then L.set i.toNat (s, (L.getD i.toNat (0, 0)).2) else L
def wornE (L : List (Int × Int)) (i n : Int) : Int := if 0 ≤ i ∧ i < L.length then (if n < 0 then 2 else 0) else 3
def wornL (L : List (Int × Int)) (i n : Int) : List (Int × Int) := if wornE L i n = 0 then L.set i.toNat ((L.getD i.toNat (0, 0)).1, n) else L

theorem pset_any (p q : Nat) (L : List (Int × Int)) (i s : Int) (w : World) (h : PoolAt w p q L) :
    Calls Tryz.prog 90 #[.pointer (some ⟨p, 0, none⟩), .int .i64 i, .int .i64 s] w fun e w' => e = .returned (.int .i64 (setE L i s)) ∧ PoolAt w' p q (setL L i s) ∧ Only q w w' := by
  have H := hide h
  by_cases hi : 0 ≤ i ∧ i < L.length
  · have hi2 := hi
    obtain ⟨i0, i1⟩ := hi
    obtain ⟨n, rfl⟩ := Int.eq_ofNat_of_zero_le i0
    have hn : n < L.length := by omega
    obtain ⟨c0, c1, f0, f1⟩ := h.at n hn
    have he : setE L n s = if s < 1 ∨ 3 < s then 2 else if (L.getD n (0, 0)).1 = 3 then 12 else 0 := by rw [setE, if_pos hi2, Int.toNat_natCast]
    have hl : setL L n s = if setE L n s = 0 then L.set n (s, (L.getD n (0, 0)).2) else L := by rw [setL, Int.toNat_natCast]
    have hset := h.setFst n hn s
    by_cases hs : s < 1 ∨ 3 < s
    · rw [if_pos hs] at he
      rw [he] at hl
      rw [he, hl, if_neg (by omega)]
      clear h he hl hset
      rcases hs with hs | hs
      · go_enter Tryz.func90, Tryz.ntmps90
        go_wp2_with fail
        refine (pat_yes p q L n hn _ H.out).mono ?_
        rintro e w1 ⟨rfl, rfl⟩
        go_wp2
        go_ret
        exact ⟨rfl, H.out, Only.refl _ _⟩
      · have hs' : ¬ s < 1 := by omega
        go_enter Tryz.func90, Tryz.ntmps90
        go_wp2_with fail
        refine (pat_yes p q L n hn _ H.out).mono ?_
        rintro e w1 ⟨rfl, rfl⟩
        go_wp2
        go_ret
        exact ⟨rfl, H.out, Only.refl _ _⟩
    · rw [if_neg hs] at he
      have s1 : 1 ≤ s := by omega
      have s3 : s ≤ 3 := by omega
      by_cases hx : (L.getD n (0, 0)).1 = 3
      · rw [if_pos hx] at he
        rw [he] at hl
        rw [he, hl, if_neg (by omega)]
        rw [hx] at c0
        clear h he hl hset hs hx
        go_enter Tryz.func90, Tryz.ntmps90
        go_wp2_with fail
        refine (pat_yes p q L n hn _ H.out).mono ?_
        rintro e w1 ⟨rfl, rfl⟩
        go_wp2
        go_ret
        exact ⟨rfl, H.out, Only.refl _ _⟩
      · rw [if_neg hx] at he
        rw [he] at hl
        rw [he, hl, if_pos rfl]
        have HX := hide hset
        have hxx : ((L.getD n (0, 0)).1 == 3) = false := by simp only [beq_eq_false_iff_ne]; exact hx
        generalize (L.getD n (0, 0)).1 = x at *
        clear h he hl hset hs hx
        go_enter Tryz.func90, Tryz.ntmps90
        go_wp2_with fail
        refine (pat_yes p q L n hn _ H.out).mono ?_
        rintro e w1 ⟨rfl, rfl⟩
        go_wp2
        go_ret
        exact ⟨rfl, HX.out, Only.setCell _ _ _⟩
  · have he : setE L i s = 3 := by rw [setE, if_neg hi]
    have hl : setL L i s = L := by rw [setL, he]; rfl
    rw [he, hl]
    have hi' : i < 0 ∨ (L.length : Int) ≤ i := by omega
    clear h he hl hi
    go_enter Tryz.func90, Tryz.ntmps90
    go_wp2_with fail
    refine (pat_no p q L i hi' _ H.out).mono ?_
    rintro e w1 ⟨rfl, rfl⟩
    go_wp2
    go_ret
    exact ⟨rfl, H.out, Only.refl _ _⟩
theorem pset_nil (i s : Int) (w : World) : Calls Tryz.prog 90 #[.pointer none, .int .i64 i, .int .i64 s] w fun e w' => e = .returned (.int .i64 1) ∧ w = w' := by
  go_enter Tryz.func90, Tryz.ntmps90
  go_wp2_with fail
  refine (pat_nil i _).mono ?_
  rintro e w1 ⟨rfl, rfl⟩
  go_wp2
  go_ret
  exact ⟨rfl, rfl⟩
theorem worn_any (p q : Nat) (L : List (Int × Int)) (i s : Int) (w : World) (h : PoolAt w p q L) :
    Calls Tryz.prog 118 #[.pointer (some ⟨p, 0, none⟩), .int .i64 i, .int .i64 s] w fun e w' => e = .returned (.int .i64 (wornE L i s)) ∧ PoolAt w' p q (wornL L i s) ∧ Only q w w' := by
  have H := hide h
  by_cases hi : 0 ≤ i ∧ i < L.length
  · have hi2 := hi
    obtain ⟨i0, i1⟩ := hi
    obtain ⟨n, rfl⟩ := Int.eq_ofNat_of_zero_le i0
    have hn : n < L.length := by omega
    obtain ⟨c0, c1, f0, f1⟩ := h.at n hn
    have he : wornE L n s = if s < 0 then 2 else 0 := by rw [wornE, if_pos hi2]
    have hl : wornL L n s = if wornE L n s = 0 then L.set n ((L.getD n (0, 0)).1, s) else L := by rw [wornL, Int.toNat_natCast]
    have hset := h.setSnd n hn s
    by_cases hs : s < 0
    · rw [if_pos hs] at he
      rw [he] at hl
      rw [he, hl, if_neg (by omega)]
      clear h he hl hset
      go_enter Tryz.func118, Tryz.ntmps118
      go_wp2_with fail
      refine (pat_yes p q L n hn _ H.out).mono ?_
      rintro e w1 ⟨rfl, rfl⟩
      go_wp2
      go_ret
      exact ⟨rfl, H.out, Only.refl _ _⟩
    · rw [if_neg hs] at he
      rw [he] at hl
      rw [he, hl, if_pos rfl]
      have HX := hide hset
      generalize (L.getD n (0, 0)).2 = x at *
      clear h he hl hset
      go_enter Tryz.func118, Tryz.ntmps118
      go_wp2_with fail
      refine (pat_yes p q L n hn _ H.out).mono ?_
      rintro e w1 ⟨rfl, rfl⟩
      go_wp2
      go_ret
      exact ⟨rfl, HX.out, Only.setCell _ _ _⟩
  · have he : wornE L i s = 3 := by rw [wornE, if_neg hi]
    have hl : wornL L i s = L := by rw [wornL, he]; rfl
    rw [he, hl]
    have hi' : i < 0 ∨ (L.length : Int) ≤ i := by omega
    clear h he hl hi
    go_enter Tryz.func118, Tryz.ntmps118
    go_wp2_with fail
    refine (pat_no p q L i hi' _ H.out).mono ?_
    rintro e w1 ⟨rfl, rfl⟩
    go_wp2
    go_ret
    exact ⟨rfl, H.out, Only.refl _ _⟩
theorem worn_nil (i s : Int) (w : World) : Calls Tryz.prog 118 #[.pointer none, .int .i64 i, .int .i64 s] w fun e w' => e = .returned (.int .i64 1) ∧ w = w' := by
  go_enter Tryz.func118, Tryz.ntmps118
  go_wp2_with fail
  refine (pat_nil i _).mono ?_
  rintro e w1 ⟨rfl, rfl⟩
  go_wp2
  go_ret
  exact ⟨rfl, rfl⟩
end Go.Proofs.YtjfmkfhjbdiojaaGreat
