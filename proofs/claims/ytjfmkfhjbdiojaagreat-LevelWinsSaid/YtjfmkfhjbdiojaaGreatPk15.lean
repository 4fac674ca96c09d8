/-
  Lemmas and contracts of this project's own, put together: Bat, Bat2, MWhere.
-/
import Derived.Deep.CutBlock
import Derived.Test.YtjfmkfhjbdiojaaGreatPk14
namespace Go.Proofs.YtjfmkfhjbdiojaaGreat
set_option linter.unusedSimpArgs false
set_option linter.unusedVariables false
open Go.RowKit Go.WideShapes Go.ChangeShapes Go.ChangeAt Go.Deep
theorem only_keepsB {Ts : List TypeId} {b : Nat} {w w' : World} {c : Array Value} {t : TypeId} {fz : Nat × Nat} (h : w.heap[b]? = some (.cells c t fz)) (ht : t ∈ Ts) (ho : Only b w w') : KeepsT Ts w w' := fun k o hk hn => by
  by_cases e : k = b
  · subst e
    rw [h] at hk
    exact absurd ht (hn _ _ _ (Option.some.inj hk).symm)
  · exact (ho.block k (heap_lt hk) e).trans hk
theorem RwAt.keepsT {α : Type} {w w' : World} {q : Nat} {T : TypeId} {n : Nat} {f : Nat → α → List Value} {dd : α} {L : List α} {Ts : List TypeId} (h : RwAt w q T n f dd L) (hk : KeepsT Ts w w') (ht : T ∉ Ts) : RwAt w' q T n f dd L := by
  obtain ⟨cs, h1, h2⟩ := h.ex
  exact ⟨⟨cs, hk.cells h1 ht, h2⟩⟩
section
variable {w w' : World} {B0 sb d b p q B pp pq : Nat} {G : Nat → Nat} {S S' : ChipM} {K K' : List KnM} {L L' : List (Int × Int)} {op lf : Int}
theorem NandAt.keepsT {Ts : List TypeId} (h : NandAt w p q B G S) (hk : KeepsT Ts w w') (h1 : 111 ∉ Ts) (h2 : 122 ∉ Ts) (h3 : 107 ∉ Ts) : NandAt w' p q B G S :=
  ⟨hk.cells h.head h1, h.row.keepsT hk h2, fun k hl => (h.page k hl).keepsT hk h3, h.inj, h.base, h.len, h.few⟩
theorem DriveAt.keepsT {Ts : List TypeId} (h : DriveAt w d b p q B G S K) (hk : KeepsT Ts w w') (h1 : 111 ∉ Ts) (h2 : 122 ∉ Ts) (h3 : 107 ∉ Ts) (h4 : 98 ∉ Ts) (h5 : 147 ∉ Ts) : DriveAt w' d b p q B G S K := by
  obtain ⟨ds, c1, c2⟩ := h.head
  exact ⟨⟨ds, hk.cells c1 h4, c2⟩, h.row.keepsT hk h5, h.chip.keepsT hk h1 h2 h3, h.len⟩
theorem PoolAt.keepsT {Ts : List TypeId} (h : PoolAt w pp pq L) (hk : KeepsT Ts w w') (h1 : 115 ∉ Ts) (h2 : 117 ∉ Ts) : PoolAt w' pp pq L := ⟨hk.cells h.head h1, hk.cells h.row h2, h.ne⟩
def BTs : List TypeId := [111, 122, 107, 147, 117, 129]
/-- below B0 nothing has turned, of the rest the chip's, the drive's, the pool's and the stream's own types alone -/
def TurnB (B0 : Nat) (w w' : World) : Prop := Below B0 w w' ∧ KeepsT BTs w w'
theorem TurnB.refl (B0 : Nat) (w : World) : TurnB B0 w w := ⟨Below.refl _ _, KeepsT.refl _ _⟩
theorem TurnB.trans {B0 : Nat} {a b c : World} (h : TurnB B0 a b) (k : TurnB B0 b c) : TurnB B0 a c := ⟨h.1.trans k.1, h.2.trans k.2⟩
theorem TurnB.of_below {B0 : Nat} {w w' : World} (h : Below w.heap.size w w') (hB : B0 ≤ w.heap.size) : TurnB B0 w w' := ⟨h.mono hB, KeepsT.of_below h⟩
theorem TurnB.of_turnD {B0 : Nat} {w w' : World} (h : TurnD B0 w w') : TurnB B0 w w' := ⟨h.1, h.2.mono (by decide)⟩
theorem TurnB.drew {B0 : Nat} {a b : World} (h : TurnB B0 a b) : TurnB B0 a b.drew := ⟨h.1.drew, h.2⟩
theorem TurnB.only {B0 : Nat} {w w' : World} {c : Array Value} {fz : Nat × Nat} (h : w.heap[pq]? = some (.cells c 117 fz)) (ho : Only pq w w') (hq : B0 ≤ pq) (hs : B0 ≤ w.heap.size) : TurnB B0 w w' := ⟨ho.below (Below.refl B0 w) hq hs, only_keepsB h (by decide) ho⟩
theorem TurnB.set {B0 : Nat} {w : World} {c : Array Value} {fz : Nat × Nat} (h : w.heap[sb]? = some (.cells c 129 fz)) (hq : B0 ≤ sb) (j : Nat) (v : Value) : TurnB B0 w (w.setCell ⟨sb, j, none⟩ v) := ⟨(Below.refl B0 w).setCell (p := ⟨sb, j, none⟩) hq v, KeepsT.setCell h (by decide) j v⟩
theorem TurnB.keep {B0 : Nat} {w w' : World} (h : TurnB B0 w w') {k : Nat} {c : Array Value} {t : TypeId} {fz : Nat × Nat} (hk : w.heap[k]? = some (.cells c t fz)) (ht : t ∉ BTs) : w'.heap[k]? = some (.cells c t fz) := h.2.cells hk ht
/-- a stream over a drive and a pool -/
structure StAt (w : World) (B0 sb d b p q B : Nat) (G : Nat → Nat) (S : ChipM) (K : List KnM) (pp pq : Nat) (L : List (Int × Int)) (op lf : Int) : Prop where
  head : w.heap[sb]? = some (.cells #[.pointer (some ⟨d, 0, none⟩), .pointer (some ⟨pp, 0, none⟩), .int .i64 op, .int .i64 lf, .slice none 0 0] 129 (0, 0))
  drive : DriveAt w d b p q B G S K
  pool : PoolAt w pp pq L
  low : B0 ≤ sb ∧ B0 ≤ B ∧ B0 ≤ b ∧ B0 ≤ pq
theorem StAt.below (h : StAt w B0 sb d b p q B G S K pp pq L op lf) (hb : Below w.heap.size w w') : StAt w' B0 sb d b p q B G S K pp pq L op lf := ⟨(hb.block _ (heap_lt h.head)).trans h.head, h.drive.below hb, h.pool.below hb, h.low⟩
theorem StAt.drew (h : StAt w B0 sb d b p q B G S K pp pq L op lf) : StAt w.drew B0 sb d b p q B G S K pp pq L op lf := ⟨h.head, h.drive.drew, h.pool.drew, h.low⟩
theorem StAt.driveTo (h : StAt w B0 sb d b p q B G S K pp pq L op lf) (hd : DriveAt w' d b p q B G S' K') (ht : TurnD B0 w w') : StAt w' B0 sb d b p q B G S' K' pp pq L op lf :=
  ⟨ht.keep h.head (by decide), hd, h.pool.keepsT ht.2 (by decide) (by decide), h.low⟩
theorem StAt.poolTo (h : StAt w B0 sb d b p q B G S K pp pq L op lf) (hp : PoolAt w' pp pq L') (ho : Only pq w w') : StAt w' B0 sb d b p q B G S K pp pq L' op lf := by
  have hk := only_keepsB (Ts := [117]) h.pool.row (by decide) ho
  exact ⟨hk.cells h.head (by decide), h.drive.keepsT hk (by decide) (by decide) (by decide) (by decide) (by decide), hp, h.low⟩
theorem StAt.setTo {ox oy : Int} (h : StAt w B0 sb d b p q B G S K pp pq L op lf) (hs : w'.heap[sb]? = some (.cells #[.pointer (some ⟨d, 0, none⟩), .pointer (some ⟨pp, 0, none⟩), .int .i64 ox, .int .i64 oy, .slice none 0 0] 129 (0, 0))) (hk : KeepsT [129] w w') : StAt w' B0 sb d b p q B G S K pp pq L ox oy :=
  ⟨hs, h.drive.keepsT hk (by decide) (by decide) (by decide) (by decide) (by decide), h.pool.keepsT hk (by decide) (by decide), h.low⟩
theorem StAt.keepsT {Ts : List TypeId} (h : StAt w B0 sb d b p q B G S K pp pq L op lf) (hk : KeepsT Ts w w') (h0 : 129 ∉ Ts) (h1 : 111 ∉ Ts) (h2 : 122 ∉ Ts) (h3 : 107 ∉ Ts) (h4 : 98 ∉ Ts) (h5 : 147 ∉ Ts) (h6 : 115 ∉ Ts) (h7 : 117 ∉ Ts) : StAt w' B0 sb d b p q B G S K pp pq L op lf :=
  ⟨hk.cells h.head h0, h.drive.keepsT hk h1 h2 h3 h4 h5, h.pool.keepsT hk h6 h7, h.low⟩
theorem TurnB.new {B0 : Nat} {a w : World} {r : Nat} (h : TurnB B0 a w) (hr : a.heap.size ≤ r) (hB : B0 ≤ a.heap.size) (cs : Array Value) : TurnB B0 a (w.setRow r cs) := by
  refine ⟨setRow_below h.1 (Nat.le_trans hB hr) (Nat.le_trans hB h.1.size) cs, fun k o hk hn => ?_⟩
  have h1 := h.2 k o hk hn
  have hlt : k < a.heap.size := by
    rcases Nat.lt_or_ge k a.heap.size with h' | h'
    · exact h'
    · rw [Array.getElem?_eq_none h'] at hk; cases hk
  rw [setRow_diff (by omega)]
  exact h1
theorem StAt.size (h : StAt w B0 sb d b p q B G S K pp pq L op lf) : B0 ≤ w.heap.size := by have := heap_lt h.head; have := h.low.1; omega
theorem chip_any (h : DriveAt w d b p q B G S K) : Calls Tryz.prog 47 #[.pointer (some ⟨d, 0, none⟩)] w fun e w' => e = .returned (.pointer (some ⟨p, 0, none⟩)) ∧ w = w' := by
  have c0 := h.cell0
  clear h
  go_enter Tryz.func47, Tryz.ntmps47
  go_wp2_with fail
  go_ret
  exact ⟨rfl, rfl⟩
theorem close_none (w : World) : Calls Tryz.prog 64 #[.pointer none] w fun e w' => e = .returned (.tuple #[]) ∧ w = w' := by
  go_enter Tryz.func64, Tryz.ntmps64
  go_wp2_with fail
  go_end0
  exact ⟨rfl, rfl⟩
theorem close_any (h : StAt w B0 sb d b p q B G S K pp pq L op lf) : Calls Tryz.prog 64 #[.pointer (some ⟨sb, 0, none⟩)] w fun e w' => e = .returned (.tuple #[]) ∧ StAt w' B0 sb d b p q B G S K pp pq L (-1) 0 ∧ TurnB B0 w w' := by
  have c2 := cell_of_block h.head 2
  have c3 := cell_of_block h.head 3
  have f2 := frozen_of_block h.head 2
  have f3 := frozen_of_block h.head 3
  have X1 := hide (show (w.setCell ⟨sb, 2, none⟩ (.int .i64 (-1))).heap[sb]? = some (.cells #[.pointer (some ⟨d, 0, none⟩), .pointer (some ⟨pp, 0, none⟩), .int .i64 (-1), .int .i64 lf, .slice none 0 0] 129 (0, 0)) from block_setCell h.head 2 (.int .i64 (-1)))
  have K1 := hide (KeepsT.setCell (Ts := [129]) h.head (by decide) 2 (.int .i64 (-1)))
  have f3' := frozen_of_block X1.out 3
  have X2 := hide (show ((w.setCell ⟨sb, 2, none⟩ (.int .i64 (-1))).setCell ⟨sb, 3, none⟩ (.int .i64 0)).heap[sb]? = some (.cells #[.pointer (some ⟨d, 0, none⟩), .pointer (some ⟨pp, 0, none⟩), .int .i64 (-1), .int .i64 0, .slice none 0 0] 129 (0, 0)) from block_setCell X1.out 3 (.int .i64 0))
  have K2 := hide (K1.out.trans (KeepsT.setCell (Ts := [129]) X1.out (by decide) 3 (.int .i64 0)))
  have BB := hide ((TurnB.set h.head h.low.1 2 (.int .i64 (-1))).trans (TurnB.set X1.out h.low.1 3 (.int .i64 0)))
  have H := hide h
  clear h
  go_enter Tryz.func64, Tryz.ntmps64
  go_wp2_with fail
  go_end0
  exact ⟨rfl, H.out.setTo X2.out K2.out, BB.out⟩
end
theorem fld0 (a b c : Int) (W : World) : (Instr.field 64 (.agg #[.int .i64 a, .int .i64 b, .int .i64 c]) 0).run Tryz.prog W = .ok (.int .i64 a) W := by kernel_rfl
theorem fld1 (a b c : Int) (W : World) : (Instr.field 64 (.agg #[.int .i64 a, .int .i64 b, .int .i64 c]) 1).run Tryz.prog W = .ok (.int .i64 b) W := by kernel_rfl
theorem fld2 (a b c : Int) (W : World) : (Instr.field 64 (.agg #[.int .i64 a, .int .i64 b, .int .i64 c]) 2).run Tryz.prog W = .ok (.int .i64 c) W := by kernel_rfl
def zerosL (n : Nat) : List UInt8 := List.replicate n 0
theorem rep_zero (n : Nat) (hn : n ≤ 1024) (w : World) : Calls Tryz.prog 38 #[.string ⟨#[0]⟩, .int .i64 (n : Int)] w fun e w' => e = .returned (.string (bs (zerosL n))) ∧ Below w.heap.size w w' := by
  refine (Tryz.strings_Repeat ⟨#[0]⟩ n w (by omega) (by show 1 * n ≤ _; omega)).mono ?_
  rintro e w' ⟨rfl, hb⟩
  refine ⟨?_, hb⟩
  have : Lib.repeatL [0] n = zerosL n := by
    unfold zerosL
    induction n with
    | zero => rfl
    | succ n ih => rw [Lib.repeatL, ih (by omega), List.replicate_succ]; rfl
  show Ending.returned (.string ⟨(Lib.repeatL [0] n).toArray⟩) = _
  rw [this]
  rfl
/-- what a block's opening turns -/
def openS (S : ChipM) (k : Nat) (sq : Int) : ChipM := progS (erasedS S k) k 0 (bs (zerosL S.size)) (bs (frameL 2 0 sq 0 1 (zerosL S.size)))
def openK (K : List KnM) (k : Nat) : List KnM := (K.set k ⟨false, 0⟩).set k ⟨false, 1⟩
section
variable {B0 sb d b p q B pp pq : Nat} {G : Nat → Nat} {S : ChipM} {K : List KnM} {L : List (Int × Int)} {op lf : Int} {N : Int}
set_option maxRecDepth 100000 in
set_option maxHeartbeats 4000000 in
theorem prepare_ok (k : Nat) (hH : Heal S N) (hN : N ≤ 900000) (hk : k < S.L.length) (hkl : k < L.length) (hbad : (K.getD k kn0).bad = false) (sq : Int) (hsq : sndZ L (k : Int) + 1 = sq) (hs0 : 1 ≤ sq) (hs1 : sq ≤ 1000000) (w : World) (h : StAt w B0 sb d b p q B G S K pp pq L op lf) :
    Calls Tryz.prog 92 #[.pointer (some ⟨sb, 0, none⟩), .int .i64 (k : Int)] w fun e w' => e = .returned (.int .i64 0) ∧ StAt w' B0 sb d b p q B G (openS S k sq) (openK K k) pp pq (L.set k ((L.getD k (0, 0)).1, sq)) op lf ∧ TurnB B0 w w' := by
  have hkK : k < K.length := by rw [h.drive.len]; exact hk
  have hoff := (erase_heal hH k hk).off
  have hE0 := erase_yes hH k hk
  have HER := hide (fun W (hW : DriveAt W d b p q B G S K) => derase_ok B0 k hkK ⟨h.low.2.1, h.low.2.2.1⟩ hbad (hH.ok (by omega)) (hH.few (by omega)) (by rw [hE0]) (by rw [hE0]; exact erase_dims hH k hk) W hW)
  rw [hE0] at HER
  dsimp only at HER
  have h2 := erase_heal hH k hk
  have hd2 := erase_dims hH k hk
  have hk2 : k < (erasedS S k).L.length := by rw [hd2.1]; exact hk
  have hnx : ((erasedS S k).blk k).next = ((0 : Nat) : Int) := by rw [erase_blk hH k hk, if_pos rfl]; rfl
  have hP0 := prog_yes h2 k 0 hk2 (by rw [hd2.2.1]; exact hH.pgs) hnx (bs (zerosL S.size)) (bs (frameL 2 0 sq 0 1 (zerosL S.size))) (by rw [bs_size, hd2.2.2]; exact List.length_replicate) (by rw [bs_size]; exact frameL_length _ _ _ _ _ _)
  have HPR := hide (fun W (hW : DriveAt W d b p q B G (erasedS S k) (K.set k ⟨false, 0⟩)) => dprog_ok B0 k 0 (by rw [List.length_set]; exact hkK) ⟨h.low.2.1, h.low.2.2.1⟩ (by simp [List.getD, hkK]) (by unfold nextK; rw [hoff]; simp [List.getD, hkK]) (by rw [hd2.2.1]; exact hH.pgs) 2 0 sq 0 1 (by unfold TagOk; omega) (by omega) (by omega) (zerosL S.size) (by rw [hd2.2.2]; exact List.length_replicate) (by rw [hd2.2.2]; exact hH.size) (h2.ok (by omega)) (by rw [hP0]) (by rw [hP0]; exact prog_dims h2 k hk2 0 _ _) W hW)
  rw [hP0] at HPR
  dsimp only at HPR
  rw [show ((0 : Nat) : Int) + 1 = 1 from rfl] at HPR
  have HWE := hide (fun W (hW : PoolAt W pp pq L) => wear_any pp pq L (k : Int) W hW)
  have HWO := hide (fun W (hW : PoolAt W pp pq L) => worn_any pp pq L (k : Int) sq W hW)
  rw [show wornE L (k : Int) sq = 0 by unfold wornE; rw [if_pos (by omega), if_neg (by omega)], show wornL L (k : Int) sq = L.set k ((L.getD k (0, 0)).1, sq) by unfold wornL wornE; rw [if_pos (by rw [if_pos (by omega), if_neg (by omega)]), Int.toNat_natCast]] at HWO
  obtain ⟨sw, hsw⟩ : ∃ sw, sndZ L (k : Int) = sw := ⟨_, rfl⟩
  rw [hsw] at HWE hsq
  have HW2 := hide (fun W (hW : PoolAt W pp pq (L.set k ((L.getD k (0, 0)).1, sq))) => wear_any pp pq _ (k : Int) W hW)
  rw [show sndZ (L.set k ((L.getD k (0, 0)).1, sq)) (k : Int) = sq by unfold sndZ; rw [if_pos (by rw [List.length_set]; omega), Int.toNat_natCast]; simp [List.getD, hkl]] at HW2
  have HRP := hide (fun W => rep_zero S.size hH.size W)
  have hdz := hd2.2.2
  unfold openS openK
  have HQ := hide h.low.2.2.2
  have H := hide h
  have HL9 := hide hd2
  have c0 := cell_of_block h.head 0
  have hsq1 : IntKind.i64.wrap (sw + 1) = sq := by rw [IntKind.wrap_i64]; omega
  have hsq3 : IntKind.u64.wrap sq = sq := by rw [IntKind.wrap_u64]; omega
  clear h hH h2 hE0 hP0 hbad hnx hoff hsw hsq hs0 hs1 hdz hd2 hk2 hkl hkK
  generalize L.set k ((L.getD k (0, 0)).1, sq) = L2 at *
  generalize erasedS S k = S1 at *
  generalize progS S1 k 0 (bs (zerosL S.size)) (bs (frameL 2 0 sq 0 1 (zerosL S.size))) = S2 at *
  generalize K.set k ⟨false, 0⟩ = K1 at *
  generalize K1.set k ⟨false, 1⟩ = K2 at *
  go_enter Tryz.func92, Tryz.ntmps92
  go_wp2_with fail
  refine (HER.out _ H.out.drive).mono ?_
  rintro e w1 ⟨rfl, hd, ht⟩
  have X1 := hide (H.out.driveTo hd ht)
  have BB1 := hide (TurnB.of_turnD ht)
  clear hd ht c0
  go_upto_region 4 with (fail)
  have X0 := hide X1.out.drew
  have BB0 := hide BB1.out.drew
  have BB0s := hide X1.out.drew.size
  clear X1 BB1 H HER
  refine wp_region_held_drew (S := (fun W => W.heap[sb]? = some (.cells #[.pointer (some ⟨d, 0, none⟩), .pointer (some ⟨pp, 0, none⟩), .int .i64 op, .int .i64 lf, .slice none 0 0] 129 (0, 0)))) (by kernel_rfl) (X0.out.head) (fun hHeld => ?_)
  generalize w1.drew = v0 at *
  refine wpAnyH_take (i := 0) (oi := { dst := some 18, op := Op.move (Operand.tmp 0), type := 26, pos := "batch.go:121", after := #[], guard := none }) (v := ?_) rfl (by kernel_rfl) (by kernel_rfl) (by kernel_rfl) (fun _ _ _ h => h) (Or.inl ⟨by kernel_rfl, ?_⟩) hHeld ?_
  rotate_left
  · (intro w hSw; (try dsimp only at hSw); have e0 := cell_of_block hSw 0; have e1 := cell_of_block hSw 1; have e2 := cell_of_block hSw 2; have e3 := cell_of_block hSw 3; have e4 := cell_of_block hSw 4; go_simp); try with_reducible rfl
  try simp only [Act.put, List.setIfInBounds_toArray, List.set_cons_zero, List.set_cons_succ]
  refine wpAnyH_take (i := 1) (oi := { dst := some 19, op := Op.nilCheck (Operand.tmp 18), type := 0, pos := "batch.go:121", after := #[{ on := 0, ground := Ground.data }], guard := none }) (v := ?_) rfl (by kernel_rfl) (by kernel_rfl) (by kernel_rfl) (fun _ _ _ h => h) (Or.inl ⟨by kernel_rfl, ?_⟩) hHeld ?_
  rotate_left
  · (intro w hSw; (try dsimp only at hSw); have e0 := cell_of_block hSw 0; have e1 := cell_of_block hSw 1; have e2 := cell_of_block hSw 2; have e3 := cell_of_block hSw 3; have e4 := cell_of_block hSw 4; go_simp); try with_reducible rfl
  try simp only [Act.put, List.setIfInBounds_toArray, List.set_cons_zero, List.set_cons_succ]
  refine wpAnyH_take (i := 2) (oi := { dst := some 20, op := Op.fieldAddr 129 (Operand.tmp 19) 1, type := 0, pos := "batch.go:121", after := #[{ on := 1, ground := Ground.data }], guard := none }) (v := ?_) rfl (by kernel_rfl) (by kernel_rfl) (by kernel_rfl) (fun _ _ _ h => h) (Or.inl ⟨by kernel_rfl, ?_⟩) hHeld ?_
  rotate_left
  · (intro w hSw; (try dsimp only at hSw); have e0 := cell_of_block hSw 0; have e1 := cell_of_block hSw 1; have e2 := cell_of_block hSw 2; have e3 := cell_of_block hSw 3; have e4 := cell_of_block hSw 4; go_simp); try with_reducible rfl
  try simp only [Act.put, List.setIfInBounds_toArray, List.set_cons_zero, List.set_cons_succ]
  refine wpAnyH_take (i := 3) (oi := { dst := some 21, op := Op.load 25 (Operand.tmp 20), type := 25, pos := "batch.go:121", after := #[{ on := 2, ground := Ground.data }], guard := none }) (v := ?_) rfl (by kernel_rfl) (by kernel_rfl) (by kernel_rfl) (fun _ _ _ h => h) (Or.inl ⟨by kernel_rfl, ?_⟩) hHeld ?_
  rotate_left
  · (intro w hSw; (try dsimp only at hSw); have e0 := cell_of_block hSw 0; have e1 := cell_of_block hSw 1; have e2 := cell_of_block hSw 2; have e3 := cell_of_block hSw 3; have e4 := cell_of_block hSw 4; go_simp); try with_reducible rfl
  try simp only [Act.put, List.setIfInBounds_toArray, List.set_cons_zero, List.set_cons_succ]
  refine wpAnyH_take (i := 4) (oi := { dst := some 22, op := Op.move (Operand.tmp 1), type := 3, pos := "batch.go:121", after := #[], guard := none }) (v := ?_) rfl (by kernel_rfl) (by kernel_rfl) (by kernel_rfl) (fun _ _ _ h => h) (Or.inl ⟨by kernel_rfl, ?_⟩) hHeld ?_
  rotate_left
  · (intro w hSw; (try dsimp only at hSw); have e0 := cell_of_block hSw 0; have e1 := cell_of_block hSw 1; have e2 := cell_of_block hSw 2; have e3 := cell_of_block hSw 3; have e4 := cell_of_block hSw 4; go_simp); try with_reducible rfl
  try simp only [Act.put, List.setIfInBounds_toArray, List.set_cons_zero, List.set_cons_succ]
  refine wpAnyH_take (i := 5) (oi := { dst := some 23, op := Op.move (Operand.tmp 0), type := 26, pos := "batch.go:121", after := #[], guard := none }) (v := ?_) rfl (by kernel_rfl) (by kernel_rfl) (by kernel_rfl) (fun _ _ _ h => h) (Or.inl ⟨by kernel_rfl, ?_⟩) hHeld ?_
  rotate_left
  · (intro w hSw; (try dsimp only at hSw); have e0 := cell_of_block hSw 0; have e1 := cell_of_block hSw 1; have e2 := cell_of_block hSw 2; have e3 := cell_of_block hSw 3; have e4 := cell_of_block hSw 4; go_simp); try with_reducible rfl
  try simp only [Act.put, List.setIfInBounds_toArray, List.set_cons_zero, List.set_cons_succ]
  refine wpAnyH_take (i := 6) (oi := { dst := some 24, op := Op.nilCheck (Operand.tmp 23), type := 0, pos := "batch.go:121", after := #[{ on := 5, ground := Ground.data }], guard := none }) (v := ?_) rfl (by kernel_rfl) (by kernel_rfl) (by kernel_rfl) (fun _ _ _ h => h) (Or.inl ⟨by kernel_rfl, ?_⟩) hHeld ?_
  rotate_left
  · (intro w hSw; (try dsimp only at hSw); have e0 := cell_of_block hSw 0; have e1 := cell_of_block hSw 1; have e2 := cell_of_block hSw 2; have e3 := cell_of_block hSw 3; have e4 := cell_of_block hSw 4; go_simp); try with_reducible rfl
  try simp only [Act.put, List.setIfInBounds_toArray, List.set_cons_zero, List.set_cons_succ]
  refine wpAnyH_take (i := 7) (oi := { dst := some 25, op := Op.fieldAddr 129 (Operand.tmp 24) 1, type := 0, pos := "batch.go:121", after := #[{ on := 6, ground := Ground.data }], guard := none }) (v := ?_) rfl (by kernel_rfl) (by kernel_rfl) (by kernel_rfl) (fun _ _ _ h => h) (Or.inl ⟨by kernel_rfl, ?_⟩) hHeld ?_
  rotate_left
  · (intro w hSw; (try dsimp only at hSw); have e0 := cell_of_block hSw 0; have e1 := cell_of_block hSw 1; have e2 := cell_of_block hSw 2; have e3 := cell_of_block hSw 3; have e4 := cell_of_block hSw 4; go_simp); try with_reducible rfl
  try simp only [Act.put, List.setIfInBounds_toArray, List.set_cons_zero, List.set_cons_succ]
  refine wpAnyH_take (i := 8) (oi := { dst := some 26, op := Op.load 25 (Operand.tmp 25), type := 25, pos := "batch.go:121", after := #[{ on := 7, ground := Ground.data }], guard := none }) (v := ?_) rfl (by kernel_rfl) (by kernel_rfl) (by kernel_rfl) (fun _ _ _ h => h) (Or.inl ⟨by kernel_rfl, ?_⟩) hHeld ?_
  rotate_left
  · (intro w hSw; (try dsimp only at hSw); have e0 := cell_of_block hSw 0; have e1 := cell_of_block hSw 1; have e2 := cell_of_block hSw 2; have e3 := cell_of_block hSw 3; have e4 := cell_of_block hSw 4; go_simp); try with_reducible rfl
  try simp only [Act.put, List.setIfInBounds_toArray, List.set_cons_zero, List.set_cons_succ]
  refine wpAnyH_take (i := 9) (oi := { dst := some 27, op := Op.move (Operand.tmp 1), type := 3, pos := "batch.go:121", after := #[], guard := none }) (v := ?_) rfl (by kernel_rfl) (by kernel_rfl) (by kernel_rfl) (fun _ _ _ h => h) (Or.inl ⟨by kernel_rfl, ?_⟩) hHeld ?_
  rotate_left
  · (intro w hSw; (try dsimp only at hSw); have e0 := cell_of_block hSw 0; have e1 := cell_of_block hSw 1; have e2 := cell_of_block hSw 2; have e3 := cell_of_block hSw 3; have e4 := cell_of_block hSw 4; go_simp); try with_reducible rfl
  try simp only [Act.put, List.setIfInBounds_toArray, List.set_cons_zero, List.set_cons_succ]
  refine wpAnyH_ready (rs := [10]) (by kernel_rfl) (by simp) (AllReadyH.cons (o := { dst := some 28, op := Op.call { callee := Callee.value (Operand.func 55), args := #[Operand.tmp 26, Operand.tmp 27], argTypes := #[25, 3] }, type := 3, pos := "batch.go:121", after := #[{ on := 8, ground := Ground.data }, { on := 9, ground := Ground.data }], guard := none }) rfl (fun K hK => ?_) AllReadyH.nil)
  have hOld := hide hHeld
  clear hHeld
  go_simp
  refine (HWE.out _ X0.out.pool).mono ?_
  rintro e u1 ⟨rfl, rfl⟩
  (try go_wp2_with fail)
  refine hK.out _ _ (hOld.out) (fun hHeld => ?_)
  clear hK K hOld
  try simp only [Act.put, List.setIfInBounds_toArray, List.set_cons_zero, List.set_cons_succ]
  refine wpAnyH_take (i := 11) (oi := { dst := some 29, op := Op.binOp BinOp.add 3 (Operand.tmp 28) (Operand.const (Value.int IntKind.i64 1)) 3, type := 3, pos := "batch.go:121", after := #[{ on := 10, ground := Ground.data }], guard := none }) (v := ?_) rfl (by kernel_rfl) (by kernel_rfl) (by kernel_rfl) (fun _ _ _ h => h) (Or.inl ⟨by kernel_rfl, ?_⟩) hHeld ?_
  rotate_left
  · (intro w hSw; (try dsimp only at hSw); have e0 := cell_of_block hSw 0; have e1 := cell_of_block hSw 1; have e2 := cell_of_block hSw 2; have e3 := cell_of_block hSw 3; have e4 := cell_of_block hSw 4; go_simp); try with_reducible rfl
  try simp only [Act.put, List.setIfInBounds_toArray, List.set_cons_zero, List.set_cons_succ]
  refine wpAnyH_ready (rs := [12]) (by kernel_rfl) (by simp) (AllReadyH.cons (o := { dst := some 30, op := Op.call { callee := Callee.value (Operand.func 118), args := #[Operand.tmp 21, Operand.tmp 22, Operand.tmp 29], argTypes := #[25, 3, 3] }, type := 35, pos := "batch.go:121", after := #[{ on := 3, ground := Ground.data }, { on := 4, ground := Ground.data }, { on := 11, ground := Ground.data }, { on := 10, ground := Ground.chain }], guard := none }) rfl (fun K hK => ?_) AllReadyH.nil)
  have hOld := hide hHeld
  clear hHeld
  go_simp
  refine (HWO.out _ X0.out.pool).mono ?_
  rintro e u2 ⟨rfl, hpl, ho⟩
  have X2 := hide (X0.out.poolTo hpl ho)
  have B2 := hide (BB0.out.trans (TurnB.only X0.out.pool.row ho HQ.out BB0s.out))
  clear hpl ho
  (try go_wp2_with fail)
  refine hK.out _ _ (X2.out.head) (fun hHeld => ?_)
  clear hK K hOld
  try simp only [Act.put, List.setIfInBounds_toArray, List.set_cons_zero, List.set_cons_succ]
  refine wpAnyH_done (by kernel_rfl) ?_ _
  clear hHeld

  clear X0 BB0 BB0s HWE HWO
  have c1 := cell_of_block X2.out.head 1
  go_wp2_with fail
  refine (HW2.out _ X2.out.pool).mono ?_
  rintro e u3 ⟨rfl, rfl⟩
  clear hsq1
  go_upto_region 6 with (refine rw_store rfl 47 (.tmp 6) (.tmp 38) rfl u2.heap.size rfl #[.int .u8 2, .int .i64 0, .int .u64 sq, .int .i64 0, .int .i64 1] rfl _ (heap_new u2 _) (by kernel_rfl) rfl (by simp [Value.oneCell']) ?_)
  have XB := hide (heap_new u2 (.cells #[.int .u8 0, .int .i64 0, .int .u64 0, .int .i64 0, .int .i64 0] 47))
  have hal := (Below.refl u2.heap.size u2).alloc (Nat.le_refl _) (.cells #[.int .u8 0, .int .i64 0, .int .u64 0, .int .i64 0, .int .i64 0] 47)
  have hbb := setRow_below (hal.trans (Below.refl _ _)) (Nat.le_refl _) hal.size (#[.int .u8 2, .int .i64 0, .int .u64 sq, .int .i64 0, .int .i64 1] : Array Value)
  have T3 := hide (setRow_same (cs := (#[.int .u8 2, .int .i64 0, .int .u64 sq, .int .i64 0, .int .i64 1] : Array Value)) XB.out)
  have X3 := hide (X2.out.below hbb)
  have BB3 := hide (B2.out.trans (TurnB.of_below hbb X2.out.size))
  clear hal hbb XB X2 B2 c1 HW2 hsq3
  generalize (u2.alloc (.cells #[.int .u8 0, .int .i64 0, .int .u64 0, .int .i64 0, .int .i64 0] 47)).setRow u2.heap.size (#[.int .u8 2, .int .i64 0, .int .u64 sq, .int .i64 0, .int .i64 1] : Array Value) = w3 at *
  generalize u2.heap.size = tb at *
  have X0 := hide X3.out.drew
  have T0 := hide (show w3.drew.heap[tb]? = _ from T3.out)
  have BB0 := hide BB3.out.drew
  have BB0s := hide X3.out.drew.size
  have HCH := hide (fun W (hW : DriveAt W d b p q B G S1 K1) => chip_any hW)
  have HSH := hide (fun W (hW : NandAt W p q B G S1) => shape_any p q B G S1 W hW)
  rw [HL9.out.1, HL9.out.2.1, HL9.out.2.2] at HSH
  have hfl := fld2
  clear X3 T3 BB3
  refine wp_region_held_drew (S := (fun W => W.heap[sb]? = some (.cells #[.pointer (some ⟨d, 0, none⟩), .pointer (some ⟨pp, 0, none⟩), .int .i64 op, .int .i64 lf, .slice none 0 0] 129 (0, 0)) ∧ W.heap[tb]? = some (.cells #[.int .u8 2, .int .i64 0, .int .u64 sq, .int .i64 0, .int .i64 1] 47 (0, 0)))) (by kernel_rfl) (⟨X0.out.head, T0.out⟩) (fun hHeld => ?_)
  generalize w3.drew = v0 at *
  refine wpAnyH_take (i := 0) (oi := { dst := some 40, op := Op.move (Operand.tmp 0), type := 26, pos := "batch.go:123", after := #[], guard := none }) (v := ?_) rfl (by kernel_rfl) (by kernel_rfl) (by kernel_rfl) (fun _ _ _ h => h) (Or.inl ⟨by kernel_rfl, ?_⟩) hHeld ?_
  rotate_left
  · (intro w hSw; (try dsimp only at hSw); have e0 := cell_of_block hSw.1 0; have e1 := cell_of_block hSw.1 1; have e2 := cell_of_block hSw.1 2; have e3 := cell_of_block hSw.1 3; have e4 := cell_of_block hSw.1 4; have g0 := cell_of_block hSw.2 0; have g1 := cell_of_block hSw.2 1; have g2 := cell_of_block hSw.2 2; have g3 := cell_of_block hSw.2 3; have g4 := cell_of_block hSw.2 4; go_simp); try with_reducible rfl
  try simp only [Act.put, List.setIfInBounds_toArray, List.set_cons_zero, List.set_cons_succ]
  refine wpAnyH_take (i := 1) (oi := { dst := some 41, op := Op.nilCheck (Operand.tmp 40), type := 0, pos := "batch.go:123", after := #[{ on := 0, ground := Ground.data }], guard := none }) (v := ?_) rfl (by kernel_rfl) (by kernel_rfl) (by kernel_rfl) (fun _ _ _ h => h) (Or.inl ⟨by kernel_rfl, ?_⟩) hHeld ?_
  rotate_left
  · (intro w hSw; (try dsimp only at hSw); have e0 := cell_of_block hSw.1 0; have e1 := cell_of_block hSw.1 1; have e2 := cell_of_block hSw.1 2; have e3 := cell_of_block hSw.1 3; have e4 := cell_of_block hSw.1 4; have g0 := cell_of_block hSw.2 0; have g1 := cell_of_block hSw.2 1; have g2 := cell_of_block hSw.2 2; have g3 := cell_of_block hSw.2 3; have g4 := cell_of_block hSw.2 4; go_simp); try with_reducible rfl
  try simp only [Act.put, List.setIfInBounds_toArray, List.set_cons_zero, List.set_cons_succ]
  refine wpAnyH_take (i := 2) (oi := { dst := some 42, op := Op.fieldAddr 129 (Operand.tmp 41) 0, type := 0, pos := "batch.go:123", after := #[{ on := 1, ground := Ground.data }], guard := none }) (v := ?_) rfl (by kernel_rfl) (by kernel_rfl) (by kernel_rfl) (fun _ _ _ h => h) (Or.inl ⟨by kernel_rfl, ?_⟩) hHeld ?_
  rotate_left
  · (intro w hSw; (try dsimp only at hSw); have e0 := cell_of_block hSw.1 0; have e1 := cell_of_block hSw.1 1; have e2 := cell_of_block hSw.1 2; have e3 := cell_of_block hSw.1 3; have e4 := cell_of_block hSw.1 4; have g0 := cell_of_block hSw.2 0; have g1 := cell_of_block hSw.2 1; have g2 := cell_of_block hSw.2 2; have g3 := cell_of_block hSw.2 3; have g4 := cell_of_block hSw.2 4; go_simp); try with_reducible rfl
  try simp only [Act.put, List.setIfInBounds_toArray, List.set_cons_zero, List.set_cons_succ]
  refine wpAnyH_take (i := 3) (oi := { dst := some 43, op := Op.load 24 (Operand.tmp 42), type := 24, pos := "batch.go:123", after := #[{ on := 2, ground := Ground.data }], guard := none }) (v := ?_) rfl (by kernel_rfl) (by kernel_rfl) (by kernel_rfl) (fun _ _ _ h => h) (Or.inl ⟨by kernel_rfl, ?_⟩) hHeld ?_
  rotate_left
  · (intro w hSw; (try dsimp only at hSw); have e0 := cell_of_block hSw.1 0; have e1 := cell_of_block hSw.1 1; have e2 := cell_of_block hSw.1 2; have e3 := cell_of_block hSw.1 3; have e4 := cell_of_block hSw.1 4; have g0 := cell_of_block hSw.2 0; have g1 := cell_of_block hSw.2 1; have g2 := cell_of_block hSw.2 2; have g3 := cell_of_block hSw.2 3; have g4 := cell_of_block hSw.2 4; go_simp); try with_reducible rfl
  try simp only [Act.put, List.setIfInBounds_toArray, List.set_cons_zero, List.set_cons_succ]
  refine wpAnyH_take (i := 4) (oi := { dst := some 44, op := Op.move (Operand.tmp 1), type := 3, pos := "batch.go:123", after := #[], guard := none }) (v := ?_) rfl (by kernel_rfl) (by kernel_rfl) (by kernel_rfl) (fun _ _ _ h => h) (Or.inl ⟨by kernel_rfl, ?_⟩) hHeld ?_
  rotate_left
  · (intro w hSw; (try dsimp only at hSw); have e0 := cell_of_block hSw.1 0; have e1 := cell_of_block hSw.1 1; have e2 := cell_of_block hSw.1 2; have e3 := cell_of_block hSw.1 3; have e4 := cell_of_block hSw.1 4; have g0 := cell_of_block hSw.2 0; have g1 := cell_of_block hSw.2 1; have g2 := cell_of_block hSw.2 2; have g3 := cell_of_block hSw.2 3; have g4 := cell_of_block hSw.2 4; go_simp); try with_reducible rfl
  try simp only [Act.put, List.setIfInBounds_toArray, List.set_cons_zero, List.set_cons_succ]
  refine wpAnyH_take (i := 5) (oi := { dst := some 45, op := Op.load 47 (Operand.tmp 6), type := 47, pos := "batch.go:123", after := #[], guard := none }) (v := ?_) rfl (by kernel_rfl) (by kernel_rfl) (by kernel_rfl) (fun _ _ _ h => h) (Or.inl ⟨by kernel_rfl, ?_⟩) hHeld ?_
  rotate_left
  · (intro w hSw; (try dsimp only at hSw); have e0 := cell_of_block hSw.1 0; have e1 := cell_of_block hSw.1 1; have e2 := cell_of_block hSw.1 2; have e3 := cell_of_block hSw.1 3; have e4 := cell_of_block hSw.1 4; have g0 := cell_of_block hSw.2 0; have g1 := cell_of_block hSw.2 1; have g2 := cell_of_block hSw.2 2; have g3 := cell_of_block hSw.2 3; have g4 := cell_of_block hSw.2 4; go_simp); try with_reducible rfl
  try simp only [Act.put, List.setIfInBounds_toArray, List.set_cons_zero, List.set_cons_succ]
  refine wpAnyH_take (i := 6) (oi := { dst := some 46, op := Op.move (Operand.tmp 0), type := 26, pos := "batch.go:123", after := #[], guard := none }) (v := ?_) rfl (by kernel_rfl) (by kernel_rfl) (by kernel_rfl) (fun _ _ _ h => h) (Or.inl ⟨by kernel_rfl, ?_⟩) hHeld ?_
  rotate_left
  · (intro w hSw; (try dsimp only at hSw); have e0 := cell_of_block hSw.1 0; have e1 := cell_of_block hSw.1 1; have e2 := cell_of_block hSw.1 2; have e3 := cell_of_block hSw.1 3; have e4 := cell_of_block hSw.1 4; have g0 := cell_of_block hSw.2 0; have g1 := cell_of_block hSw.2 1; have g2 := cell_of_block hSw.2 2; have g3 := cell_of_block hSw.2 3; have g4 := cell_of_block hSw.2 4; go_simp); try with_reducible rfl
  try simp only [Act.put, List.setIfInBounds_toArray, List.set_cons_zero, List.set_cons_succ]
  refine wpAnyH_take (i := 7) (oi := { dst := some 47, op := Op.nilCheck (Operand.tmp 46), type := 0, pos := "batch.go:123", after := #[{ on := 6, ground := Ground.data }], guard := none }) (v := ?_) rfl (by kernel_rfl) (by kernel_rfl) (by kernel_rfl) (fun _ _ _ h => h) (Or.inl ⟨by kernel_rfl, ?_⟩) hHeld ?_
  rotate_left
  · (intro w hSw; (try dsimp only at hSw); have e0 := cell_of_block hSw.1 0; have e1 := cell_of_block hSw.1 1; have e2 := cell_of_block hSw.1 2; have e3 := cell_of_block hSw.1 3; have e4 := cell_of_block hSw.1 4; have g0 := cell_of_block hSw.2 0; have g1 := cell_of_block hSw.2 1; have g2 := cell_of_block hSw.2 2; have g3 := cell_of_block hSw.2 3; have g4 := cell_of_block hSw.2 4; go_simp); try with_reducible rfl
  try simp only [Act.put, List.setIfInBounds_toArray, List.set_cons_zero, List.set_cons_succ]
  refine wpAnyH_take (i := 8) (oi := { dst := some 48, op := Op.fieldAddr 129 (Operand.tmp 47) 0, type := 0, pos := "batch.go:123", after := #[{ on := 7, ground := Ground.data }], guard := none }) (v := ?_) rfl (by kernel_rfl) (by kernel_rfl) (by kernel_rfl) (fun _ _ _ h => h) (Or.inl ⟨by kernel_rfl, ?_⟩) hHeld ?_
  rotate_left
  · (intro w hSw; (try dsimp only at hSw); have e0 := cell_of_block hSw.1 0; have e1 := cell_of_block hSw.1 1; have e2 := cell_of_block hSw.1 2; have e3 := cell_of_block hSw.1 3; have e4 := cell_of_block hSw.1 4; have g0 := cell_of_block hSw.2 0; have g1 := cell_of_block hSw.2 1; have g2 := cell_of_block hSw.2 2; have g3 := cell_of_block hSw.2 3; have g4 := cell_of_block hSw.2 4; go_simp); try with_reducible rfl
  try simp only [Act.put, List.setIfInBounds_toArray, List.set_cons_zero, List.set_cons_succ]
  refine wpAnyH_take (i := 9) (oi := { dst := some 49, op := Op.load 24 (Operand.tmp 48), type := 24, pos := "batch.go:123", after := #[{ on := 8, ground := Ground.data }], guard := none }) (v := ?_) rfl (by kernel_rfl) (by kernel_rfl) (by kernel_rfl) (fun _ _ _ h => h) (Or.inl ⟨by kernel_rfl, ?_⟩) hHeld ?_
  rotate_left
  · (intro w hSw; (try dsimp only at hSw); have e0 := cell_of_block hSw.1 0; have e1 := cell_of_block hSw.1 1; have e2 := cell_of_block hSw.1 2; have e3 := cell_of_block hSw.1 3; have e4 := cell_of_block hSw.1 4; have g0 := cell_of_block hSw.2 0; have g1 := cell_of_block hSw.2 1; have g2 := cell_of_block hSw.2 2; have g3 := cell_of_block hSw.2 3; have g4 := cell_of_block hSw.2 4; go_simp); try with_reducible rfl
  try simp only [Act.put, List.setIfInBounds_toArray, List.set_cons_zero, List.set_cons_succ]
  refine wpAnyH_ready (rs := [10]) (by kernel_rfl) (by simp) (AllReadyH.cons (o := { dst := some 50, op := Op.call { callee := Callee.value (Operand.func 47), args := #[Operand.tmp 49], argTypes := #[24] }, type := 23, pos := "batch.go:123", after := #[{ on := 9, ground := Ground.data }], guard := none }) rfl (fun K hK => ?_) AllReadyH.nil)
  have hOld := hide hHeld
  clear hHeld
  go_simp
  refine (HCH.out _ X0.out.drive).mono ?_
  rintro e u1 ⟨rfl, rfl⟩
  (try go_wp2_with fail)
  refine hK.out _ _ (hOld.out) (fun hHeld => ?_)
  clear hK K hOld
  try simp only [Act.put, List.setIfInBounds_toArray, List.set_cons_zero, List.set_cons_succ]
  refine wpAnyH_ready (rs := [11]) (by kernel_rfl) (by simp) (AllReadyH.cons (o := { dst := some 51, op := Op.call { callee := Callee.value (Operand.func 44), args := #[Operand.tmp 50], argTypes := #[23] }, type := 64, pos := "batch.go:123", after := #[{ on := 10, ground := Ground.data }, { on := 10, ground := Ground.chain }], guard := none }) rfl (fun K hK => ?_) AllReadyH.nil)
  have hOld := hide hHeld
  clear hHeld
  go_simp
  refine (HSH.out _ X0.out.drive.chip).mono ?_
  rintro e v1 ⟨rfl, hb⟩
  have X1 := hide (X0.out.below hb)
  have T1 := hide ((hb.block _ (heap_lt T0.out)).trans T0.out)
  have BB1 := hide (BB0.out.trans (TurnB.of_below hb BB0s.out))
  have BB1s := hide (Nat.le_trans BB0s.out hb.size)
  clear hb
  (try go_wp2_with fail)
  refine hK.out _ _ (⟨X1.out.head, T1.out⟩) (fun hHeld => ?_)
  clear hK K hOld
  try simp only [Act.put, List.setIfInBounds_toArray, List.set_cons_zero, List.set_cons_succ]
  refine wpAnyH_take (i := 12) (oi := { dst := some 52, op := Op.field 64 (Operand.tmp 51) 2, type := 3, pos := "batch.go:123", after := #[{ on := 11, ground := Ground.data }], guard := none }) (v := ?_) rfl (by kernel_rfl) (by kernel_rfl) (by kernel_rfl) (fun _ _ _ h => h) (Or.inl ⟨by kernel_rfl, ?_⟩) hHeld ?_
  rotate_left
  · (intro w hSw; (try dsimp only at hSw); have e0 := cell_of_block hSw.1 0; have e1 := cell_of_block hSw.1 1; have e2 := cell_of_block hSw.1 2; have e3 := cell_of_block hSw.1 3; have e4 := cell_of_block hSw.1 4; have g0 := cell_of_block hSw.2 0; have g1 := cell_of_block hSw.2 1; have g2 := cell_of_block hSw.2 2; have g3 := cell_of_block hSw.2 3; have g4 := cell_of_block hSw.2 4; go_simp); try with_reducible rfl
  try simp only [Act.put, List.setIfInBounds_toArray, List.set_cons_zero, List.set_cons_succ]
  refine wpAnyH_ready (rs := [13]) (by kernel_rfl) (by simp) (AllReadyH.cons (o := { dst := some 53, op := Op.call { callee := Callee.value (Operand.func 38), args := #[Operand.const (Value.string { data := #[0] }), Operand.tmp 52], argTypes := #[9, 3] }, type := 9, pos := "batch.go:123", after := #[{ on := 12, ground := Ground.data }, { on := 11, ground := Ground.chain }], guard := none }) rfl (fun K hK => ?_) AllReadyH.nil)
  have hOld := hide hHeld
  clear hHeld
  go_simp
  refine (HRP.out _).mono ?_
  rintro e v2 ⟨rfl, hb⟩
  have X2 := hide (X1.out.below hb)
  have T2 := hide ((hb.block _ (heap_lt T1.out)).trans T1.out)
  have BB2 := hide (BB1.out.trans (TurnB.of_below hb BB1s.out))
  have BB2s := hide (Nat.le_trans BB1s.out hb.size)
  clear hb
  (try go_wp2_with fail)
  refine hK.out _ _ (⟨X2.out.head, T2.out⟩) (fun hHeld => ?_)
  clear hK K hOld
  try simp only [Act.put, List.setIfInBounds_toArray, List.set_cons_zero, List.set_cons_succ]
  refine wpAnyH_ready (rs := [14]) (by kernel_rfl) (by simp) (AllReadyH.cons (o := { dst := some 54, op := Op.call { callee := Callee.value (Operand.func 63), args := #[Operand.tmp 43, Operand.tmp 44, Operand.tmp 45, Operand.tmp 53], argTypes := #[24, 3, 47, 9] }, type := 140, pos := "batch.go:123", after := #[{ on := 3, ground := Ground.data }, { on := 4, ground := Ground.data }, { on := 5, ground := Ground.data }, { on := 13, ground := Ground.data }, { on := 13, ground := Ground.chain }], guard := none }) rfl (fun K hK => ?_) AllReadyH.nil)
  have hOld := hide hHeld
  clear hHeld
  go_simp
  refine (HPR.out _ X2.out.drive).mono ?_
  rintro e v3 ⟨rfl, hd, ht⟩
  have X3 := hide (X2.out.driveTo hd ht)
  have T3 := hide (ht.keep T2.out (by decide))
  have BB3 := hide (BB2.out.trans (TurnB.of_turnD ht))
  clear hd ht
  (try go_wp2_with fail)
  refine hK.out _ _ (⟨X3.out.head, T3.out⟩) (fun hHeld => ?_)
  clear hK K hOld
  try simp only [Act.put, List.setIfInBounds_toArray, List.set_cons_zero, List.set_cons_succ]
  refine wpAnyH_take (i := 15) (oi := { dst := some 39, op := Op.move (Operand.tmp 54), type := 140, pos := "batch.go:123", after := #[{ on := 14, ground := Ground.data }], guard := none }) (v := ?_) rfl (by kernel_rfl) (by kernel_rfl) (by kernel_rfl) (fun _ _ _ h => h) (Or.inl ⟨by kernel_rfl, ?_⟩) hHeld ?_
  rotate_left
  · (intro w hSw; (try dsimp only at hSw); have e0 := cell_of_block hSw.1 0; have e1 := cell_of_block hSw.1 1; have e2 := cell_of_block hSw.1 2; have e3 := cell_of_block hSw.1 3; have e4 := cell_of_block hSw.1 4; have g0 := cell_of_block hSw.2 0; have g1 := cell_of_block hSw.2 1; have g2 := cell_of_block hSw.2 2; have g3 := cell_of_block hSw.2 3; have g4 := cell_of_block hSw.2 4; go_simp); try with_reducible rfl
  try simp only [Act.put, List.setIfInBounds_toArray, List.set_cons_zero, List.set_cons_succ]
  refine wpAnyH_take (i := 16) (oi := { dst := some 55, op := Op.extract (Operand.tmp 39) 0, type := 3, pos := "batch.go:123", after := #[{ on := 15, ground := Ground.data }], guard := none }) (v := ?_) rfl (by kernel_rfl) (by kernel_rfl) (by kernel_rfl) (fun _ _ _ h => h) (Or.inl ⟨by kernel_rfl, ?_⟩) hHeld ?_
  rotate_left
  · (intro w hSw; (try dsimp only at hSw); have e0 := cell_of_block hSw.1 0; have e1 := cell_of_block hSw.1 1; have e2 := cell_of_block hSw.1 2; have e3 := cell_of_block hSw.1 3; have e4 := cell_of_block hSw.1 4; have g0 := cell_of_block hSw.2 0; have g1 := cell_of_block hSw.2 1; have g2 := cell_of_block hSw.2 2; have g3 := cell_of_block hSw.2 3; have g4 := cell_of_block hSw.2 4; go_simp); try with_reducible rfl
  try simp only [Act.put, List.setIfInBounds_toArray, List.set_cons_zero, List.set_cons_succ]
  refine wpAnyH_take (i := 17) (oi := { dst := some 56, op := Op.extract (Operand.tmp 39) 1, type := 35, pos := "batch.go:123", after := #[{ on := 15, ground := Ground.data }, { on := 18, ground := Ground.gcOnly Departure.lateStores }], guard := none }) (v := ?_) rfl (by kernel_rfl) (by kernel_rfl) (by kernel_rfl) (fun _ _ _ h => h) (Or.inl ⟨by kernel_rfl, ?_⟩) hHeld ?_
  rotate_left
  · (intro w hSw; (try dsimp only at hSw); have e0 := cell_of_block hSw.1 0; have e1 := cell_of_block hSw.1 1; have e2 := cell_of_block hSw.1 2; have e3 := cell_of_block hSw.1 3; have e4 := cell_of_block hSw.1 4; have g0 := cell_of_block hSw.2 0; have g1 := cell_of_block hSw.2 1; have g2 := cell_of_block hSw.2 2; have g3 := cell_of_block hSw.2 3; have g4 := cell_of_block hSw.2 4; go_simp); try with_reducible rfl
  try simp only [Act.put, List.setIfInBounds_toArray, List.set_cons_zero, List.set_cons_succ]
  refine wpAnyH_take (i := 18) (oi := { dst := some 7, op := Op.assign (Operand.tmp 55), type := 3, pos := "batch.go:123", after := #[{ on := 16, ground := Ground.data }, { on := 14, ground := Ground.chain }, { on := 0, ground := Ground.phase }, { on := 1, ground := Ground.phase }, { on := 2, ground := Ground.phase }, { on := 3, ground := Ground.phase }, { on := 4, ground := Ground.phase }, { on := 5, ground := Ground.phase }, { on := 6, ground := Ground.phase }, { on := 7, ground := Ground.phase }, { on := 8, ground := Ground.phase }, { on := 9, ground := Ground.phase }, { on := 10, ground := Ground.phase }, { on := 11, ground := Ground.phase }, { on := 12, ground := Ground.phase }, { on := 13, ground := Ground.phase }, { on := 14, ground := Ground.phase }, { on := 15, ground := Ground.phase }, { on := 16, ground := Ground.phase }, { on := 17, ground := Ground.textOnly Departure.lateStores }], guard := none }) (v := ?_) rfl (by kernel_rfl) (by kernel_rfl) (by kernel_rfl) (fun _ _ _ h => h) (Or.inl ⟨by kernel_rfl, ?_⟩) hHeld ?_
  rotate_left
  · (intro w hSw; (try dsimp only at hSw); have e0 := cell_of_block hSw.1 0; have e1 := cell_of_block hSw.1 1; have e2 := cell_of_block hSw.1 2; have e3 := cell_of_block hSw.1 3; have e4 := cell_of_block hSw.1 4; have g0 := cell_of_block hSw.2 0; have g1 := cell_of_block hSw.2 1; have g2 := cell_of_block hSw.2 2; have g3 := cell_of_block hSw.2 3; have g4 := cell_of_block hSw.2 4; go_simp); try with_reducible rfl
  try simp only [Act.put, List.setIfInBounds_toArray, List.set_cons_zero, List.set_cons_succ]
  refine wpAnyH_take (i := 19) (oi := { dst := some 8, op := Op.assign (Operand.tmp 56), type := 35, pos := "batch.go:123", after := #[{ on := 17, ground := Ground.data }, { on := 18, ground := Ground.chain }, { on := 0, ground := Ground.phase }, { on := 1, ground := Ground.phase }, { on := 2, ground := Ground.phase }, { on := 3, ground := Ground.phase }, { on := 4, ground := Ground.phase }, { on := 5, ground := Ground.phase }, { on := 6, ground := Ground.phase }, { on := 7, ground := Ground.phase }, { on := 8, ground := Ground.phase }, { on := 9, ground := Ground.phase }, { on := 10, ground := Ground.phase }, { on := 11, ground := Ground.phase }, { on := 12, ground := Ground.phase }, { on := 13, ground := Ground.phase }, { on := 14, ground := Ground.phase }, { on := 15, ground := Ground.phase }, { on := 16, ground := Ground.phase }, { on := 17, ground := Ground.phase }, { on := 18, ground := Ground.phase }], guard := none }) (v := ?_) rfl (by kernel_rfl) (by kernel_rfl) (by kernel_rfl) (fun _ _ _ h => h) (Or.inl ⟨by kernel_rfl, ?_⟩) hHeld ?_
  rotate_left
  · (intro w hSw; (try dsimp only at hSw); have e0 := cell_of_block hSw.1 0; have e1 := cell_of_block hSw.1 1; have e2 := cell_of_block hSw.1 2; have e3 := cell_of_block hSw.1 3; have e4 := cell_of_block hSw.1 4; have g0 := cell_of_block hSw.2 0; have g1 := cell_of_block hSw.2 1; have g2 := cell_of_block hSw.2 2; have g3 := cell_of_block hSw.2 3; have g4 := cell_of_block hSw.2 4; go_simp); try with_reducible rfl
  try simp only [Act.put, List.setIfInBounds_toArray, List.set_cons_zero, List.set_cons_succ]
  refine wpAnyH_done (by kernel_rfl) ?_ _
  clear hHeld

  go_wp2_with fail
  go_ret
  exact ⟨rfl, X3.out, BB3.out⟩
end
end Go.Proofs.YtjfmkfhjbdiojaaGreat

namespace Go.Proofs.YtjfmkfhjbdiojaaGreat
set_option linter.unusedSimpArgs false
set_option linter.unusedVariables false
open Go.RowKit Go.WideShapes Go.ChangeShapes Go.ChangeAt Go.Deep
theorem open_dims {S : ChipM} {N : Int} (h : Heal S N) (k : Nat) (hk : k < S.L.length) (sq : Int) : DimsSame S (openS S k sq) := by
  have h1 := erase_dims h k hk
  have h2 := prog_dims (erase_heal h k hk) k (by rw [h1.1]; exact hk) 0 (bs (zerosL S.size)) (bs (frameL 2 0 sq 0 1 (zerosL S.size)))
  exact ⟨h2.1.trans h1.1, h2.2.1.trans h1.2.1, h2.2.2.trans h1.2.2⟩
theorem open_heal {S : ChipM} {N : Int} (h : Heal S N) (k : Nat) (hk : k < S.L.length) (sq : Int) : Heal (openS S k sq) (N + 2) := by
  have h1 := erase_dims h k hk
  have := prog_heal (erase_heal h k hk) k (by rw [h1.1]; exact hk) 0 (bs (zerosL S.size)) (bs (frameL 2 0 sq 0 1 (zerosL S.size)))
  exact this.mono (by omega)
section
variable {B0 sb d b p q B pp pq : Nat} {G : Nat → Nat} {S S1 : ChipM} {K K1 : List KnM} {L L1 : List (Int × Int)} {op lf lf1 : Int} {N : Int}
set_option maxRecDepth 100000 in
set_option maxHeartbeats 4000000 in
theorem begin_full (hT : takeZ false L = (0, 13)) (hTL : takeL false L = L) (hll : L.length ≤ 1000000) (w : World) (h : StAt w B0 sb d b p q B G S K pp pq L op lf) :
    Calls Tryz.prog 62 #[.pointer (some ⟨sb, 0, none⟩)] w fun e w' => e = .returned (.int .i64 13) ∧ StAt w' B0 sb d b p q B G S K pp pq L (-1) 0 ∧ TurnB B0 w w' := by
  have HC := hide (fun W (hW : StAt W B0 sb d b p q B G S K pp pq L op lf) => close_any hW)
  have HTK := hide (fun W (hW : PoolAt W pp pq L) => ptake_any pp pq L hll W hW)
  rw [hT, hTL] at HTK
  have HQ := hide h.low.2.2.2
  have H := hide h
  clear h hT hTL
  go_enter Tryz.func62, Tryz.ntmps62
  go_wp2_with fail
  go_loopw [] (fun W => W = w) (fun _ => 0)
  case atStart => exact rfl
  case round =>
  obtain rfl := hrel
  go_wp2_with fail
  refine (HC.out _ H.out).mono ?_
  rintro e w1 ⟨rfl, hs, hb⟩
  have X1 := hide hs
  have B1 := hide hb
  clear hs hb HC
  have c1 := cell_of_block X1.out.head 1
  go_wp2_with fail
  refine (HTK.out _ X1.out.pool).mono ?_
  rintro e w2 ⟨rfl, hp, ho⟩
  have X2 := hide (X1.out.poolTo hp ho)
  have B2 := hide (B1.out.trans (TurnB.only X1.out.pool.row ho HQ.out X1.out.size))
  clear hp ho c1
  go_wp2_with fail
  go_ret
  exact ⟨rfl, X2.out, B2.out⟩
set_option maxRecDepth 100000 in
set_option maxHeartbeats 4000000 in
theorem begin_ok (k : Nat) (hT : takeZ false L = ((k : Int), 0)) (hTL : takeL false L = L1) (hll : L.length ≤ 1000000) (hH : Heal S N) (hN : N ≤ 900000) (hk : k < S.L.length) (hkl : k < L1.length) (hbad : (K.getD k kn0).bad = false) (sq : Int) (hsq : sndZ L1 (k : Int) + 1 = sq) (hs0 : 1 ≤ sq) (hs1 : sq ≤ 1000000) (w : World) (h : StAt w B0 sb d b p q B G S K pp pq L op lf) :
    Calls Tryz.prog 62 #[.pointer (some ⟨sb, 0, none⟩)] w fun e w' => e = .returned (.int .i64 0) ∧ StAt w' B0 sb d b p q B G (openS S k sq) (openK K k) pp pq (L1.set k ((L1.getD k (0, 0)).1, sq)) (k : Int) ((S.pgs : Int) - 1) ∧ TurnB B0 w w' := by
  have HC := hide (fun W (hW : StAt W B0 sb d b p q B G S K pp pq L op lf) => close_any hW)
  have HTK := hide (fun W (hW : PoolAt W pp pq L) => ptake_any pp pq L hll W hW)
  rw [hT, hTL] at HTK
  have HQ := hide h.low.2.2.2
  have HLW := hide h.low.1
  have H := hide h
  have HPR := hide (fun W (hW : StAt W B0 sb d b p q B G S K pp pq L1 (-1) 0) => prepare_ok k hH hN hk hkl hbad sq hsq hs0 hs1 W hW)
  have HDM := hide (open_dims hH k hk sq)
  have h64 := h.drive.chip.few.2
  have hp1 := hH.pgs
  have hpw : IntKind.i64.wrap ((S.pgs : Int) - 1) = (S.pgs : Int) - 1 := by rw [IntKind.wrap_i64]; omega
  clear h hT hTL hH hbad hsq hs0 hs1 hkl h64 hp1
  generalize openS S k sq = S2 at *
  generalize openK K k = K2 at *
  generalize L1.set k ((L1.getD k (0, 0)).1, sq) = L2 at *
  go_enter Tryz.func62, Tryz.ntmps62
  go_wp2_with fail
  go_loopw [] (fun W => W = w) (fun _ => 0)
  case atStart => exact rfl
  case round =>
  obtain rfl := hrel
  go_wp2_with fail
  refine (HC.out _ H.out).mono ?_
  rintro e w1 ⟨rfl, hs, hb⟩
  have X1 := hide hs
  have B1 := hide hb
  clear hs hb HC
  have c1 := cell_of_block X1.out.head 1
  go_wp2_with fail
  refine (HTK.out _ X1.out.pool).mono ?_
  rintro e w2 ⟨rfl, hp, ho⟩
  have X2 := hide (X1.out.poolTo hp ho)
  have B2 := hide (B1.out.trans (TurnB.only X1.out.pool.row ho HQ.out X1.out.size))
  clear hp ho c1 X1 B1 HTK
  go_wp2_with fail
  refine (HPR.out _ X2.out).mono ?_
  rintro e w3 ⟨rfl, hs, hb⟩
  have X3 := hide hs
  have B3 := hide (B2.out.trans hb)
  clear hs hb X2 B2 HPR
  have HCH := hide (fun W (hW : DriveAt W d b p q B G S2 K2) => chip_any hW)
  have HSH := hide (fun W (hW : NandAt W p q B G S2) => shape_any p q B G S2 W hW)
  rw [HDM.out.1, HDM.out.2.1, HDM.out.2.2] at HSH
  have hfl := fld1
  have c0 := cell_of_block X3.out.head 0
  go_wp2_with fail
  refine (HCH.out _ X3.out.drive).mono ?_
  rintro e w4 ⟨rfl, rfl⟩
  go_wp2_with fail
  refine (HSH.out _ X3.out.drive.chip).mono ?_
  rintro e w5 ⟨rfl, hb⟩
  have X5 := hide (X3.out.below hb)
  have B5 := hide (B3.out.trans (TurnB.of_below hb X3.out.size))
  clear hb X3 B3 c0 HCH HSH
  have c2 := cell_of_block X5.out.head 2
  have c3 := cell_of_block X5.out.head 3
  have f2 := frozen_of_block X5.out.head 2
  have Y1 := hide (show (w5.setCell ⟨sb, 2, none⟩ (.int .i64 (k : Int))).heap[sb]? = some (.cells #[.pointer (some ⟨d, 0, none⟩), .pointer (some ⟨pp, 0, none⟩), .int .i64 (k : Int), .int .i64 0, .slice none 0 0] 129 (0, 0)) from block_setCell X5.out.head 2 (.int .i64 (k : Int)))
  have K1 := hide (KeepsT.setCell (Ts := [129]) X5.out.head (by decide) 2 (.int .i64 (k : Int)))
  have f3 := frozen_of_block X5.out.head 3
  have f3' := frozen_of_block Y1.out 3
  have Y2 := hide (show ((w5.setCell ⟨sb, 2, none⟩ (.int .i64 (k : Int))).setCell ⟨sb, 3, none⟩ (.int .i64 ((S.pgs : Int) - 1))).heap[sb]? = some (.cells #[.pointer (some ⟨d, 0, none⟩), .pointer (some ⟨pp, 0, none⟩), .int .i64 (k : Int), .int .i64 ((S.pgs : Int) - 1), .slice none 0 0] 129 (0, 0)) from block_setCell Y1.out 3 (.int .i64 ((S.pgs : Int) - 1)))
  have K2' := hide (K1.out.trans (KeepsT.setCell (Ts := [129]) Y1.out (by decide) 3 (.int .i64 ((S.pgs : Int) - 1))))
  have BB := hide ((B5.out.trans (TurnB.set X5.out.head HLW.out 2 (.int .i64 (k : Int)))).trans (TurnB.set Y1.out HLW.out 3 (.int .i64 ((S.pgs : Int) - 1))))
  go_wp2_with fail
  go_ret
  exact ⟨rfl, X5.out.setTo Y2.out K2'.out, BB.out⟩
/-- a page more, where no block fails: behind what opens one, if there is no room -/
def PutIs (B0 sb d b p q B : Nat) (G : Nat → Nat) (S1 : ChipM) (K1 : List KnM) (pp pq : Nat) (L1 : List (Int × Int)) (k j : Nat) (lf1 : Int) (td : List UInt8) (tk tl ts tn tm : Int) (w : World) (e : Ending) (w' : World) : Prop :=
  e = .returned (.tuple #[.agg #[.int .i64 (k : Int), .int .i64 (j : Int)], .int .i64 0]) ∧ StAt w' B0 sb d b p q B G (progS S1 k j (bs td) (bs (frameL tk tl ts tn tm td))) (K1.set k ⟨false, (j : Int) + 1⟩) pp pq L1 (k : Int) (lf1 - 1) ∧ TurnB B0 w w'
theorem res_ctB {P : Program} {fn : Func} {p u : Tmp} {ty : TypeId} (h : fn.results = #[.cell p ty, .tmp u]) (tmps : Array Value) (w : World) (g : Nat) (ty2 : TypeId) (cs : Array Value) (fr : Nat × Nat) (d : TypeDesc)
    (hp : tmps.getD p undef = .pointer (some ⟨g, 0, none⟩)) (hg : w.heap[g]? = some (.cells cs ty2 fr)) (hu : P.underlying ty = some d) (hd : (match d with | .struct _ | .array _ _ => true | _ => false) = true) (hi : (P.info? ty).map (·.size) = some cs.size) :
    (results fn tmps).run P w = .ok (.tuple #[.agg cs, tmps.getD u undef]) w := by
  have hp' : tmps[p]?.getD undef = .pointer (some ⟨g, 0, none⟩) := by simpa using hp
  simp [results, h, hp', asAddr, run_loadVar_row w g ty2 ty cs fr d hg hu hd hi]
set_option maxRecDepth 100000 in
set_option maxHeartbeats 8000000 in
theorem put_go (k j : Nat) (hcase : (¬ lf = 0 ∧ S1 = S ∧ K1 = K ∧ L1 = L ∧ op = (k : Int) ∧ lf1 = lf) ∨ (lf = 0 ∧ ∀ W, StAt W B0 sb d b p q B G S K pp pq L op lf → Calls Tryz.prog 62 #[.pointer (some ⟨sb, 0, none⟩)] W fun e w' => e = .returned (.int .i64 0) ∧ StAt w' B0 sb d b p q B G S1 K1 pp pq L1 (k : Int) lf1 ∧ TurnB B0 W w'))
    (hH : Heal S1 N) (hN : N ≤ 900000) (hD : DimsSame S S1) (hKl : K1.length = S1.L.length) (hk : k < S1.L.length) (hj : j < S1.pgs) (hn : (S1.blk k).next = (j : Int)) (hK : K1.getD k kn0 = ⟨false, (j : Int)⟩) (hlf : 1 ≤ lf1 ∧ lf1 ≤ 1000)
    (tk tl ts tn tm : Int) (hT : TagOk tk tl tn tm) (s0 : 0 ≤ ts) (s1 : ts ≤ 18446744073709551615) (td : List UInt8) (ht : td.length = S1.size) (w : World) (h : StAt w B0 sb d b p q B G S K pp pq L op lf) :
    Calls Tryz.prog 30 #[.pointer (some ⟨sb, 0, none⟩), .agg #[.int .u8 tk, .int .i64 tl, .int .u64 ts, .int .i64 tn, .int .i64 tm], .string (bs td)] w (PutIs B0 sb d b p q B G S1 K1 pp pq L1 k j lf1 td tk tl ts tn tm w) := by
  have hkK1 : k < K1.length := by rw [hKl]; exact hk
  have hoff := hH.off
  have hP0 := prog_yes hH k j hk hj hn (bs td) (bs (frameL tk tl ts tn tm td)) (by rw [bs_size]; exact ht) (by rw [bs_size]; exact frameL_length _ _ _ _ _ _)
  have HPR := hide (fun W (hW : DriveAt W d b p q B G S1 K1) => dprog_ok B0 k j hkK1 ⟨h.low.2.1, h.low.2.2.1⟩ (by rw [hK]) (by unfold nextK; rw [hoff, hK]; rfl) hj tk tl ts tn tm hT s0 s1 td ht hH.size (hH.ok (by omega)) (by rw [hP0]) (by rw [hP0]; exact prog_dims hH k hk j _ _) W hW)
  rw [hP0] at HPR
  dsimp only at HPR
  have HRT := hide (fun W => tright_yes tk tl ts tn tm hT W)
  have HCH := hide (fun W (hW : DriveAt W d b p q B G S K) => chip_any hW)
  have HSH := hide (fun W (hW : NandAt W p q B G S) => shape_any p q B G S W hW)
  have hts : ((bs td).size : Int) = (S.size : Int) := by rw [bs_size, ht, hD.2.2]
  unfold PutIs
  generalize progS S1 k j (bs td) (bs (frameL tk tl ts tn tm td)) = S2 at *
  generalize bs td = t at *
  have HQ := hide h.low.1
  have H := hide h
  have HCASE := hide hcase
  have hfl := fld2
  obtain ⟨kI, hkI⟩ : ∃ kI : Int, (k : Int) = kI := ⟨_, rfl⟩
  have hlw : IntKind.i64.wrap (lf1 - 1) = lf1 - 1 := by rw [IntKind.wrap_i64]; omega
  clear h hH hN hD hKl hk hj hn hK hlf hT s0 s1 ht hoff hP0 hcase hkI kI
  obtain ⟨o1, ho1⟩ : ∃ ob, ob = (Obj.cells #[.int .u8 tk, .int .i64 tl, .int .u64 ts, .int .i64 tn, .int .i64 tm] 47) := ⟨_, rfl⟩
  obtain ⟨o2, ho2⟩ : ∃ ob, ob = (Obj.cells #[.int .i64 0, .int .i64 0] 41) := ⟨_, rfl⟩
  have hal := ((Below.refl w.heap.size w).alloc (Nat.le_refl _) o1).alloc (by simp) o2
  have T1 := hide (show ((w.alloc o1).alloc o2).heap[w.heap.size]? = some (.cells #[.int .u8 tk, .int .i64 tl, .int .u64 ts, .int .i64 tn, .int .i64 tm] 47 (0, 0)) by rw [heap_old _ _ _ (by simp), heap_new, ho1])
  have R1 := hide (show ((w.alloc o1).alloc o2).heap[w.heap.size + 1]? = some (.cells #[.int .i64 0, .int .i64 0] 41 (0, 0)) by rw [show w.heap.size + 1 = (w.alloc o1).heap.size by simp, heap_new, ho2])
  have HSZ := hide H.out.size
  have X1 := hide (H.out.below hal)
  have B1 := hide (TurnB.of_below hal H.out.size)
  clear hal
  go_enter Tryz.func30, Tryz.ntmps30
  go_upto_region 1 with (fail)
  rw [← ho1, ← ho2]
  clear H
  generalize (w.alloc o1).alloc o2 = w1 at *
  obtain ⟨tb, htb⟩ : ∃ k, w.heap.size = k := ⟨_, rfl⟩
  obtain ⟨rb, hrb⟩ : ∃ k, tb + 1 = k := ⟨_, rfl⟩
  have HRB := hide (show w.heap.size ≤ rb ∧ B0 ≤ w.heap.size from ⟨by omega, HSZ.out⟩)
  rw [htb] at T1 R1 ⊢
  rw [hrb] at R1 ⊢
  clear htb hrb ho1 ho2 o1 o2
  go_wp2_with (refine rw_load rfl 47 (.tmp 4) rfl tb rfl 47 #[.int .u8 tk, .int .i64 tl, .int .u64 ts, .int .i64 tn, .int .i64 tm] (0, 0) _ T1.out Tryz.underlying47 rfl (by kernel_rfl) ?_)
  refine (HRT.out _).mono ?_
  rintro e w2 ⟨rfl, hb⟩
  have T2 := hide ((hb.block _ (heap_lt T1.out)).trans T1.out)
  have R2 := hide ((hb.block _ (heap_lt R1.out)).trans R1.out)
  have X2 := hide (X1.out.below hb)
  have B2 := hide (B1.out.trans (TurnB.of_below hb X1.out.size))
  clear hb T1 R1 X1 B1 HRT
  have c0 := cell_of_block X2.out.head 0
  go_wp2_with fail
  refine (HCH.out _ X2.out.drive).mono ?_
  rintro e w3 ⟨rfl, rfl⟩
  go_wp2_with fail
  refine (HSH.out _ X2.out.drive.chip).mono ?_
  rintro e w4 ⟨rfl, hb⟩
  have T4 := hide ((hb.block _ (heap_lt T2.out)).trans T2.out)
  have R4 := hide ((hb.block _ (heap_lt R2.out)).trans R2.out)
  have X4 := hide (X2.out.below hb)
  have B4 := hide (B2.out.trans (TurnB.of_below hb X2.out.size))
  clear hb T2 R2 X2 B2 c0 HCH HSH
  go_wp2_with fail
  clear hts
  go_loopw [] (fun W => W = w4) (fun _ => 0)
  case atStart => exact rfl
  case round =>
  obtain rfl := hrel
  have c3 := cell_of_block X4.out.head 3
  go_upto_if 35 with (fail)
  clear c3
  go_cut [] from 31 to 42 (fun W => StAt W B0 sb d b p q B G S1 K1 pp pq L1 (k : Int) lf1 ∧ W.heap[tb]? = some (.cells #[.int .u8 tk, .int .i64 tl, .int .u64 ts, .int .i64 tn, .int .i64 tm] 47 (0, 0)) ∧ W.heap[rb]? = some (.cells #[.int .i64 0, .int .i64 0] 41 (0, 0)) ∧ TurnB B0 w W)
  case first =>
    rcases HCASE.out with ⟨hn0, rfl, rfl, rfl, rfl, rfl⟩ | ⟨rfl, hbg⟩
    · have g0 : (lf1 == 0) = false := beq_eq_false_iff_ne.mpr hn0
      clear hn0
      go_wp2_with fail
      go_meet
      exact ⟨X4.out, T4.out, R4.out, B4.out⟩
    · have HBG := hide hbg
      clear hbg
      go_wp2_with fail
      refine (HBG.out _ X4.out).mono ?_
      rintro e w5 ⟨rfl, hs, hb⟩
      have X5 := hide hs
      have T5 := hide (hb.keep T4.out (by decide))
      have R5 := hide (hb.keep R4.out (by decide))
      have B5 := hide (B4.out.trans hb)
      clear hs hb
      go_wp2_with fail
      go_meet
      exact ⟨X5.out, T5.out, R5.out, B5.out⟩
  case rest =>
  obtain ⟨hs, h1, h2, hb⟩ := hcut
  have X6 := hide hs
  have T6 := hide h1
  have R6 := hide h2
  have B6 := hide hb
  clear hs h1 h2 hb X4 T4 R4 B4 HCASE
  have c2 := cell_of_block X6.out.head 2
  go_upto_region 10 with (fail)
  clear c2
  obtain ⟨w6, hw6⟩ : ∃ w6, w6 = wc := ⟨_, rfl⟩
  rw [← hw6] at X6 T6 R6 B6 ⊢
  clear hw6
  have X0 := hide X6.out.drew
  have T0 := hide (show w6.drew.heap[tb]? = _ from T6.out)
  have R0 := hide (show w6.drew.heap[rb]? = _ from R6.out)
  have BB0 := hide B6.out.drew
  clear X6 T6 R6 B6
  refine wp_region_held_drew (S := (fun W => W.heap[sb]? = some (.cells #[.pointer (some ⟨d, 0, none⟩), .pointer (some ⟨pp, 0, none⟩), .int .i64 (k : Int), .int .i64 lf1, .slice none 0 0] 129 (0, 0)) ∧ W.heap[tb]? = some (.cells #[.int .u8 tk, .int .i64 tl, .int .u64 ts, .int .i64 tn, .int .i64 tm] 47 (0, 0)))) (by kernel_rfl) (⟨X0.out.head, T0.out⟩) (fun hHeld => ?_)
  generalize w6.drew = v0 at *
  refine wpAnyH_take (i := 0) (oi := { dst := some 47, op := Op.move (Operand.tmp 0), type := 26, pos := "batch.go:85", after := #[], guard := none }) (v := ?_) rfl (by kernel_rfl) (by kernel_rfl) (by kernel_rfl) (fun _ _ _ h => h) (Or.inl ⟨by kernel_rfl, ?_⟩) hHeld ?_
  rotate_left
  · (intro w hSw; (try dsimp only at hSw); have e0 := cell_of_block hSw.1 0; have e1 := cell_of_block hSw.1 1; have e2 := cell_of_block hSw.1 2; have e3 := cell_of_block hSw.1 3; have e4 := cell_of_block hSw.1 4; have g0 := cell_of_block hSw.2 0; have g1 := cell_of_block hSw.2 1; have g2 := cell_of_block hSw.2 2; have g3 := cell_of_block hSw.2 3; have g4 := cell_of_block hSw.2 4; go_simp); try with_reducible rfl
  try simp only [Act.put, List.setIfInBounds_toArray, List.set_cons_zero, List.set_cons_succ]
  refine wpAnyH_take (i := 1) (oi := { dst := some 48, op := Op.nilCheck (Operand.tmp 47), type := 0, pos := "batch.go:85", after := #[{ on := 0, ground := Ground.data }], guard := none }) (v := ?_) rfl (by kernel_rfl) (by kernel_rfl) (by kernel_rfl) (fun _ _ _ h => h) (Or.inl ⟨by kernel_rfl, ?_⟩) hHeld ?_
  rotate_left
  · (intro w hSw; (try dsimp only at hSw); have e0 := cell_of_block hSw.1 0; have e1 := cell_of_block hSw.1 1; have e2 := cell_of_block hSw.1 2; have e3 := cell_of_block hSw.1 3; have e4 := cell_of_block hSw.1 4; have g0 := cell_of_block hSw.2 0; have g1 := cell_of_block hSw.2 1; have g2 := cell_of_block hSw.2 2; have g3 := cell_of_block hSw.2 3; have g4 := cell_of_block hSw.2 4; go_simp); try with_reducible rfl
  try simp only [Act.put, List.setIfInBounds_toArray, List.set_cons_zero, List.set_cons_succ]
  refine wpAnyH_take (i := 2) (oi := { dst := some 49, op := Op.fieldAddr 129 (Operand.tmp 48) 0, type := 0, pos := "batch.go:85", after := #[{ on := 1, ground := Ground.data }], guard := none }) (v := ?_) rfl (by kernel_rfl) (by kernel_rfl) (by kernel_rfl) (fun _ _ _ h => h) (Or.inl ⟨by kernel_rfl, ?_⟩) hHeld ?_
  rotate_left
  · (intro w hSw; (try dsimp only at hSw); have e0 := cell_of_block hSw.1 0; have e1 := cell_of_block hSw.1 1; have e2 := cell_of_block hSw.1 2; have e3 := cell_of_block hSw.1 3; have e4 := cell_of_block hSw.1 4; have g0 := cell_of_block hSw.2 0; have g1 := cell_of_block hSw.2 1; have g2 := cell_of_block hSw.2 2; have g3 := cell_of_block hSw.2 3; have g4 := cell_of_block hSw.2 4; go_simp); try with_reducible rfl
  try simp only [Act.put, List.setIfInBounds_toArray, List.set_cons_zero, List.set_cons_succ]
  refine wpAnyH_take (i := 3) (oi := { dst := some 50, op := Op.load 24 (Operand.tmp 49), type := 24, pos := "batch.go:85", after := #[{ on := 2, ground := Ground.data }], guard := none }) (v := ?_) rfl (by kernel_rfl) (by kernel_rfl) (by kernel_rfl) (fun _ _ _ h => h) (Or.inl ⟨by kernel_rfl, ?_⟩) hHeld ?_
  rotate_left
  · (intro w hSw; (try dsimp only at hSw); have e0 := cell_of_block hSw.1 0; have e1 := cell_of_block hSw.1 1; have e2 := cell_of_block hSw.1 2; have e3 := cell_of_block hSw.1 3; have e4 := cell_of_block hSw.1 4; have g0 := cell_of_block hSw.2 0; have g1 := cell_of_block hSw.2 1; have g2 := cell_of_block hSw.2 2; have g3 := cell_of_block hSw.2 3; have g4 := cell_of_block hSw.2 4; go_simp); try with_reducible rfl
  try simp only [Act.put, List.setIfInBounds_toArray, List.set_cons_zero, List.set_cons_succ]
  refine wpAnyH_take (i := 4) (oi := { dst := some 51, op := Op.move (Operand.tmp 9), type := 3, pos := "batch.go:85", after := #[], guard := none }) (v := ?_) rfl (by kernel_rfl) (by kernel_rfl) (by kernel_rfl) (fun _ _ _ h => h) (Or.inl ⟨by kernel_rfl, ?_⟩) hHeld ?_
  rotate_left
  · (intro w hSw; (try dsimp only at hSw); have e0 := cell_of_block hSw.1 0; have e1 := cell_of_block hSw.1 1; have e2 := cell_of_block hSw.1 2; have e3 := cell_of_block hSw.1 3; have e4 := cell_of_block hSw.1 4; have g0 := cell_of_block hSw.2 0; have g1 := cell_of_block hSw.2 1; have g2 := cell_of_block hSw.2 2; have g3 := cell_of_block hSw.2 3; have g4 := cell_of_block hSw.2 4; go_simp); try with_reducible rfl
  try simp only [Act.put, List.setIfInBounds_toArray, List.set_cons_zero, List.set_cons_succ]
  refine wpAnyH_take (i := 5) (oi := { dst := some 52, op := Op.load 47 (Operand.tmp 4), type := 47, pos := "batch.go:85", after := #[], guard := none }) (v := ?_) rfl (by kernel_rfl) (by kernel_rfl) (by kernel_rfl) (fun _ _ _ h => h) (Or.inl ⟨by kernel_rfl, ?_⟩) hHeld ?_
  rotate_left
  · (intro w hSw; (try dsimp only at hSw); have e0 := cell_of_block hSw.1 0; have e1 := cell_of_block hSw.1 1; have e2 := cell_of_block hSw.1 2; have e3 := cell_of_block hSw.1 3; have e4 := cell_of_block hSw.1 4; have g0 := cell_of_block hSw.2 0; have g1 := cell_of_block hSw.2 1; have g2 := cell_of_block hSw.2 2; have g3 := cell_of_block hSw.2 3; have g4 := cell_of_block hSw.2 4; go_simp); try with_reducible rfl
  try simp only [Act.put, List.setIfInBounds_toArray, List.set_cons_zero, List.set_cons_succ]
  refine wpAnyH_take (i := 6) (oi := { dst := some 53, op := Op.move (Operand.tmp 2), type := 9, pos := "batch.go:85", after := #[], guard := none }) (v := ?_) rfl (by kernel_rfl) (by kernel_rfl) (by kernel_rfl) (fun _ _ _ h => h) (Or.inl ⟨by kernel_rfl, ?_⟩) hHeld ?_
  rotate_left
  · (intro w hSw; (try dsimp only at hSw); have e0 := cell_of_block hSw.1 0; have e1 := cell_of_block hSw.1 1; have e2 := cell_of_block hSw.1 2; have e3 := cell_of_block hSw.1 3; have e4 := cell_of_block hSw.1 4; have g0 := cell_of_block hSw.2 0; have g1 := cell_of_block hSw.2 1; have g2 := cell_of_block hSw.2 2; have g3 := cell_of_block hSw.2 3; have g4 := cell_of_block hSw.2 4; go_simp); try with_reducible rfl
  try simp only [Act.put, List.setIfInBounds_toArray, List.set_cons_zero, List.set_cons_succ]
  refine wpAnyH_ready (rs := [7]) (by kernel_rfl) (by simp) (AllReadyH.cons (o := { dst := some 54, op := Op.call { callee := Callee.value (Operand.func 63), args := #[Operand.tmp 50, Operand.tmp 51, Operand.tmp 52, Operand.tmp 53], argTypes := #[24, 3, 47, 9] }, type := 140, pos := "batch.go:85", after := #[{ on := 3, ground := Ground.data }, { on := 4, ground := Ground.data }, { on := 5, ground := Ground.data }, { on := 6, ground := Ground.data }], guard := none }) rfl (fun K hK => ?_) AllReadyH.nil)
  have hOld := hide hHeld
  clear hHeld
  go_simp
  refine (HPR.out _ X0.out.drive).mono ?_
  rintro e v1 ⟨rfl, hd, ht⟩
  have X1 := hide (X0.out.driveTo hd ht)
  have R1 := hide (ht.keep R0.out (by decide))
  have T1 := hide (ht.keep T0.out (by decide))
  have BB1 := hide (BB0.out.trans (TurnB.of_turnD ht))
  clear hd ht
  (try go_wp2_with fail)
  refine hK.out _ _ (⟨X1.out.head, T1.out⟩) (fun hHeld => ?_)
  clear hK K hOld
  try simp only [Act.put, List.setIfInBounds_toArray, List.set_cons_zero, List.set_cons_succ]
  refine wpAnyH_take (i := 8) (oi := { dst := some 46, op := Op.move (Operand.tmp 54), type := 140, pos := "batch.go:85", after := #[{ on := 7, ground := Ground.data }], guard := none }) (v := ?_) rfl (by kernel_rfl) (by kernel_rfl) (by kernel_rfl) (fun _ _ _ h => h) (Or.inl ⟨by kernel_rfl, ?_⟩) hHeld ?_
  rotate_left
  · (intro w hSw; (try dsimp only at hSw); have e0 := cell_of_block hSw.1 0; have e1 := cell_of_block hSw.1 1; have e2 := cell_of_block hSw.1 2; have e3 := cell_of_block hSw.1 3; have e4 := cell_of_block hSw.1 4; have g0 := cell_of_block hSw.2 0; have g1 := cell_of_block hSw.2 1; have g2 := cell_of_block hSw.2 2; have g3 := cell_of_block hSw.2 3; have g4 := cell_of_block hSw.2 4; go_simp); try with_reducible rfl
  try simp only [Act.put, List.setIfInBounds_toArray, List.set_cons_zero, List.set_cons_succ]
  refine wpAnyH_take (i := 9) (oi := { dst := some 55, op := Op.extract (Operand.tmp 46) 0, type := 3, pos := "batch.go:85", after := #[{ on := 8, ground := Ground.data }], guard := none }) (v := ?_) rfl (by kernel_rfl) (by kernel_rfl) (by kernel_rfl) (fun _ _ _ h => h) (Or.inl ⟨by kernel_rfl, ?_⟩) hHeld ?_
  rotate_left
  · (intro w hSw; (try dsimp only at hSw); have e0 := cell_of_block hSw.1 0; have e1 := cell_of_block hSw.1 1; have e2 := cell_of_block hSw.1 2; have e3 := cell_of_block hSw.1 3; have e4 := cell_of_block hSw.1 4; have g0 := cell_of_block hSw.2 0; have g1 := cell_of_block hSw.2 1; have g2 := cell_of_block hSw.2 2; have g3 := cell_of_block hSw.2 3; have g4 := cell_of_block hSw.2 4; go_simp); try with_reducible rfl
  try simp only [Act.put, List.setIfInBounds_toArray, List.set_cons_zero, List.set_cons_succ]
  refine wpAnyH_take (i := 10) (oi := { dst := some 56, op := Op.extract (Operand.tmp 46) 1, type := 35, pos := "batch.go:85", after := #[{ on := 8, ground := Ground.data }, { on := 11, ground := Ground.gcOnly Departure.lateStores }], guard := none }) (v := ?_) rfl (by kernel_rfl) (by kernel_rfl) (by kernel_rfl) (fun _ _ _ h => h) (Or.inl ⟨by kernel_rfl, ?_⟩) hHeld ?_
  rotate_left
  · (intro w hSw; (try dsimp only at hSw); have e0 := cell_of_block hSw.1 0; have e1 := cell_of_block hSw.1 1; have e2 := cell_of_block hSw.1 2; have e3 := cell_of_block hSw.1 3; have e4 := cell_of_block hSw.1 4; have g0 := cell_of_block hSw.2 0; have g1 := cell_of_block hSw.2 1; have g2 := cell_of_block hSw.2 2; have g3 := cell_of_block hSw.2 3; have g4 := cell_of_block hSw.2 4; go_simp); try with_reducible rfl
  try simp only [Act.put, List.setIfInBounds_toArray, List.set_cons_zero, List.set_cons_succ]
  refine wpAnyH_take (i := 11) (oi := { dst := some 10, op := Op.assign (Operand.tmp 55), type := 3, pos := "batch.go:85", after := #[{ on := 9, ground := Ground.data }, { on := 7, ground := Ground.chain }, { on := 0, ground := Ground.phase }, { on := 1, ground := Ground.phase }, { on := 2, ground := Ground.phase }, { on := 3, ground := Ground.phase }, { on := 4, ground := Ground.phase }, { on := 5, ground := Ground.phase }, { on := 6, ground := Ground.phase }, { on := 7, ground := Ground.phase }, { on := 8, ground := Ground.phase }, { on := 9, ground := Ground.phase }, { on := 10, ground := Ground.textOnly Departure.lateStores }], guard := none }) (v := ?_) rfl (by kernel_rfl) (by kernel_rfl) (by kernel_rfl) (fun _ _ _ h => h) (Or.inl ⟨by kernel_rfl, ?_⟩) hHeld ?_
  rotate_left
  · (intro w hSw; (try dsimp only at hSw); have e0 := cell_of_block hSw.1 0; have e1 := cell_of_block hSw.1 1; have e2 := cell_of_block hSw.1 2; have e3 := cell_of_block hSw.1 3; have e4 := cell_of_block hSw.1 4; have g0 := cell_of_block hSw.2 0; have g1 := cell_of_block hSw.2 1; have g2 := cell_of_block hSw.2 2; have g3 := cell_of_block hSw.2 3; have g4 := cell_of_block hSw.2 4; go_simp); try with_reducible rfl
  try simp only [Act.put, List.setIfInBounds_toArray, List.set_cons_zero, List.set_cons_succ]
  refine wpAnyH_take (i := 12) (oi := { dst := some 11, op := Op.assign (Operand.tmp 56), type := 35, pos := "batch.go:85", after := #[{ on := 10, ground := Ground.data }, { on := 11, ground := Ground.chain }, { on := 0, ground := Ground.phase }, { on := 1, ground := Ground.phase }, { on := 2, ground := Ground.phase }, { on := 3, ground := Ground.phase }, { on := 4, ground := Ground.phase }, { on := 5, ground := Ground.phase }, { on := 6, ground := Ground.phase }, { on := 7, ground := Ground.phase }, { on := 8, ground := Ground.phase }, { on := 9, ground := Ground.phase }, { on := 10, ground := Ground.phase }, { on := 11, ground := Ground.phase }], guard := none }) (v := ?_) rfl (by kernel_rfl) (by kernel_rfl) (by kernel_rfl) (fun _ _ _ h => h) (Or.inl ⟨by kernel_rfl, ?_⟩) hHeld ?_
  rotate_left
  · (intro w hSw; (try dsimp only at hSw); have e0 := cell_of_block hSw.1 0; have e1 := cell_of_block hSw.1 1; have e2 := cell_of_block hSw.1 2; have e3 := cell_of_block hSw.1 3; have e4 := cell_of_block hSw.1 4; have g0 := cell_of_block hSw.2 0; have g1 := cell_of_block hSw.2 1; have g2 := cell_of_block hSw.2 2; have g3 := cell_of_block hSw.2 3; have g4 := cell_of_block hSw.2 4; go_simp); try with_reducible rfl
  try simp only [Act.put, List.setIfInBounds_toArray, List.set_cons_zero, List.set_cons_succ]
  refine wpAnyH_done (by kernel_rfl) ?_ _
  clear hHeld

  have c3 := cell_of_block X1.out.head 3
  have f3 := frozen_of_block X1.out.head 3
  have Y2 := hide (show (v1.setCell ⟨sb, 3, none⟩ (.int .i64 (lf1 - 1))).heap[sb]? = some (.cells #[.pointer (some ⟨d, 0, none⟩), .pointer (some ⟨pp, 0, none⟩), .int .i64 (k : Int), .int .i64 (lf1 - 1), .slice none 0 0] 129 (0, 0)) from block_setCell X1.out.head 3 (.int .i64 (lf1 - 1)))
  have K2 := hide (KeepsT.setCell (Ts := [129]) X1.out.head (by decide) 3 (.int .i64 (lf1 - 1)))
  have X2 := hide (X1.out.setTo Y2.out K2.out)
  have R2 := hide (K2.out.cells R1.out (by decide))
  have B2 := hide (BB1.out.trans (TurnB.set X1.out.head HQ.out 3 (.int .i64 (lf1 - 1))))
  go_upto_region 13 with (fail)
  clear c3 f3 X1 R1 BB1 Y2 K2
  generalize v1.setCell ⟨sb, 3, none⟩ (.int .i64 (lf1 - 1)) = v2 at *
  go_wp2_with (refine rw_store rfl 41 (.tmp 6) (.tmp 68) rfl rb rfl #[.int .i64 (k : Int), .int .i64 (j : Int)] rfl _ R2.out (by kernel_rfl) rfl (by simp [Value.oneCell']) ?_)
  have RF := hide (setRow_same (cs := (#[.int .i64 (k : Int), .int .i64 (j : Int)] : Array Value)) R2.out)
  have KF := hide (setRow_keeps (Ts := [41]) R2.out (by decide) (#[.int .i64 (k : Int), .int .i64 (j : Int)] : Array Value))
  (try simp only [Exit.inBlock, Exit.then])
  refine bodyPost_ret (res_ctB (P := Tryz.prog) rfl _ _ rb 41 (#[.int .i64 (k : Int), .int .i64 (j : Int)] : Array Value) (0, 0) _ rfl RF.out Tryz.underlying41 rfl (by kernel_rfl)) rfl ?_
  exact ⟨rfl, X2.out.keepsT KF.out (by decide) (by decide) (by decide) (by decide) (by decide) (by decide) (by decide) (by decide), B2.out.new HRB.out.1 HRB.out.2 _⟩
end
end Go.Proofs.YtjfmkfhjbdiojaaGreat

namespace Go.Proofs.YtjfmkfhjbdiojaaGreat
namespace W
/-- where each logical page is -/
abbrev Spots := List (Option (Int × Int))
def owner (S : Spots) (x : Int × Int) : Option Nat := S.findIdx? (· == some x)
def total (S : Spots) : Nat := S.countP Option.isSome
def liveN (S : Spots) (b : Int) : Nat := S.countP (fun o => o.any (·.1 == b))
/-- no two are at one place -/
def Inj (S : Spots) : Prop := ∀ (i j : Nat) (x : Int × Int), S[i]? = some (some x) → S[j]? = some (some x) → i = j
theorem owner_some {S : Spots} {x : Int × Int} {i : Nat} (h : owner S x = some i) : S[i]? = some (some x) := by
  unfold owner at h
  rw [List.findIdx?_eq_some_iff_getElem] at h
  obtain ⟨h1, h2, _⟩ := h
  rw [List.getElem?_eq_getElem h1]
  simpa using h2
theorem owner_none {S : Spots} {x : Int × Int} (h : owner S x = none) (i : Nat) : S[i]? ≠ some (some x) := by
  unfold owner at h
  rw [List.findIdx?_eq_none_iff] at h
  intro he
  obtain ⟨h1, h2⟩ := List.getElem?_eq_some_iff.1 he
  have := h _ (List.getElem_mem h1)
  rw [h2] at this
  simp at this
theorem owner_is {S : Spots} (hi : Inj S) {x : Int × Int} {i : Nat} (h : S[i]? = some (some x)) : owner S x = some i := by
  cases ho : owner S x with
  | none => exact absurd h (owner_none ho i)
  | some j => rw [hi j i x (owner_some ho) h]
theorem owner_isnt {S : Spots} {x : Int × Int} (h : ∀ i : Nat, S[i]? ≠ some (some x)) : owner S x = none := by
  cases ho : owner S x with
  | none => rfl
  | some j => exact absurd (owner_some ho) (h j)
theorem Inj.drop {S : Spots} (h : Inj S) (i : Nat) : Inj (S.set i none) := by
  intro a b x ha hb
  rw [List.getElem?_set] at ha hb
  split at ha
  · split at ha <;> cases ha
  · split at hb
    · split at hb <;> cases hb
    · exact h a b x ha hb
theorem owner_drop {S : Spots} (hi : Inj S) (i : Nat) (y : Int × Int) : owner (S.set i none) y = if S[i]? = some (some y) then none else owner S y := by
  by_cases h : S[i]? = some (some y)
  · rw [if_pos h]
    apply owner_isnt
    intro j hj
    rw [List.getElem?_set] at hj
    split at hj
    · split at hj <;> cases hj
    · rename_i hne
      exact hne (hi i j y h hj)
  · rw [if_neg h]
    cases ho : owner S y with
    | none =>
      apply owner_isnt
      intro j hj
      rw [List.getElem?_set] at hj
      split at hj
      · split at hj <;> cases hj
      · exact owner_none ho j hj
    | some j =>
      have hj := owner_some ho
      apply owner_is (hi.drop i)
      rw [List.getElem?_set, if_neg ?_]
      · exact hj
      · intro e; subst e; exact h hj
theorem Inj.put {S : Spots} (h : Inj S) {i : Nat} {x : Int × Int} (hx : owner S x = none ∨ owner S x = some i) : Inj (S.set i (some x)) := by
  have key : ∀ j, j ≠ i → S[j]? ≠ some (some x) := by
    intro j hj hs
    have := owner_is h hs
    rcases hx with hx | hx
    · rw [this] at hx; cases hx
    · rw [this] at hx; exact hj (by simpa using hx)
  intro a b y ha hb
  rw [List.getElem?_set] at ha hb
  split at ha
  · rename_i e1
    split at hb
    · omega
    · rename_i e2
      split at ha
      · simp only [Option.some.injEq] at ha; subst ha; exact absurd hb (key b (fun e => e2 e.symm))
      · cases ha
  · rename_i e1
    split at hb
    · split at hb
      · simp only [Option.some.injEq] at hb; subst hb; exact absurd ha (key a (fun e => e1 e.symm))
      · cases hb
    · exact h a b y ha hb
theorem owner_put {S : Spots} (h : Inj S) {i : Nat} (hl : i < S.length) {x : Int × Int} (hx : owner S x = none ∨ owner S x = some i) (y : Int × Int) :
    owner (S.set i (some x)) y = if y = x then some i else if S[i]? = some (some y) then none else owner S y := by
  have hj := h.put hx
  by_cases e : y = x
  · subst e
    rw [if_pos rfl]
    exact owner_is hj (by rw [List.getElem?_set, if_pos rfl, if_pos hl])
  · rw [if_neg e]
    have := owner_drop h i y
    rw [← this]
    cases ho : owner (S.set i none) y with
    | none =>
      apply owner_isnt
      intro k hk
      by_cases hik : i = k
      · subst hik
        rw [List.getElem?_set, if_pos rfl, if_pos hl] at hk
        simp only [Option.some.injEq] at hk
        exact e hk.symm
      · rw [List.getElem?_set, if_neg hik] at hk
        exact owner_none ho k (by rw [List.getElem?_set, if_neg hik]; exact hk)
    | some k =>
      have hk := owner_some ho
      apply owner_is hj
      have hik : i ≠ k := by
        intro e2; subst e2
        rw [List.getElem?_set, if_pos rfl] at hk
        split at hk <;> cases hk
      rw [List.getElem?_set, if_neg hik] at hk
      rw [List.getElem?_set, if_neg hik]
      exact hk
theorem countP_set {p : Option (Int × Int) → Bool} {S : Spots} {i : Nat} (hl : i < S.length) (v : Option (Int × Int)) : (S.set i v).countP p + (if p (S.getD i none) then 1 else 0) = S.countP p + (if p v then 1 else 0) := by
  induction S generalizing i with
  | nil => simp at hl
  | cons a S ih =>
    cases i with
    | zero => simp [List.countP_cons]; omega
    | succ i =>
      have := ih (i := i) (by simpa using hl)
      simp only [List.set_cons_succ, List.countP_cons, List.getD_cons_succ]
      omega
theorem total_le (S : Spots) : total S ≤ S.length := List.countP_le_length
theorem live_le (S : Spots) (b : Int) : liveN S b ≤ total S := List.countP_mono_left (fun o _ h => by cases o <;> simp_all)
end W
end Go.Proofs.YtjfmkfhjbdiojaaGreat
