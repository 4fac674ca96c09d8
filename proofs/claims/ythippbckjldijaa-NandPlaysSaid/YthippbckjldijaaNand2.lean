/-
  Layer 5, the program's calls, second part: what is told of a block, what is counted; Fuse, Wreck, sin, cut.
-/
import Derived.Test.YthippbckjldijaaNand
--import Derived.Test.Zdbg
namespace Go.Proofs.Ythippbckjldijaa
set_option linter.unusedSimpArgs false
set_option linter.unusedVariables false
open Go.RowKit Go.WideShapes Go.ChangeShapes Go.ChangeAt

/-- from block B on, and of a chip's own kinds alone -/
def Turn (B : Nat) (w w' : World) : Prop := Below B w w' ∧ KeepsT [74, 78, 70] w w'
theorem Turn.refl (B : Nat) (w : World) : Turn B w w := ⟨Below.refl _ _, KeepsT.refl _ _⟩
theorem Turn.trans {B : Nat} {a b c : World} (h : Turn B a b) (k : Turn B b c) : Turn B a c := ⟨h.1.trans k.1, h.2.trans k.2⟩
theorem Turn.of_below {B : Nat} {w w' : World} (h : Below w.heap.size w w') (hB : B ≤ w.heap.size) : Turn B w w' := ⟨h.mono hB, KeepsT.of_below h⟩
theorem Turn.drewN {B : Nat} {a b : World} (h : Turn B a b) (n : Nat) : Turn B a (b.drewN n) := ⟨below_drewN h.1 n, h.2.drewN n⟩
theorem Turn.drew {B : Nat} {a b : World} (h : Turn B a b) : Turn B a b.drew := ⟨h.1.drew, h.2⟩
theorem NandAt.size {w : World} {p q B : Nat} {G : Nat → Nat} {S : ChipM} (h : NandAt w p q B G S) : B ≤ w.heap.size := Nat.le_trans h.base.1 (Nat.le_of_lt h.lt)
theorem NandAt.turnHead {w : World} {p q B : Nat} {G : Nat → Nat} {S : ChipM} (h : NandAt w p q B G S) (j : Nat) (v : Value) : Turn B w (w.setCell ⟨p, j, none⟩ v) :=
  ⟨(Below.refl B w).setCell h.base.1 v, KeepsT.setCell h.head (by simp) j v⟩
theorem NandAt.turnBlk {w : World} {p q B : Nat} {G : Nat → Nat} {S : ChipM} (h : NandAt w p q B G S) (j : Nat) (v : Value) : Turn B w (w.setCell ⟨q, j, none⟩ v) := by
  obtain ⟨cs, h1, -⟩ := h.row.ex
  exact ⟨(Below.refl B w).setCell h.base.2.1 v, KeepsT.setCell h1 (by simp) j v⟩
theorem NandAt.turnPage {w : World} {p q B : Nat} {G : Nat → Nat} {S : ChipM} (h : NandAt w p q B G S) (k : Nat) (hk : k < S.L.length) (j : Nat) (v : Value) : Turn B w (w.setCell ⟨G k, j, none⟩ v) := by
  obtain ⟨cs, h1, -⟩ := (h.page k hk).ex
  exact ⟨(Below.refl B w).setCell (h.base.2.2 k hk) v, KeepsT.setCell h1 (by simp) j v⟩
/-- a call's turn of a chip -/
def NandIs (p q B : Nat) (G : Nat → Nat) (S' : ChipM) (v : Value) (w : World) (e : Ending) (w' : World) : Prop := e = .returned v ∧ NandAt w' p q B G S' ∧ Turn B w w'

def nextZ (S : ChipM) (b : Int) : Int := if 0 ≤ b ∧ b < S.L.length then (S.blk b.toNat).next else 0
def erasesZ (S : ChipM) (b : Int) : Int := if 0 ≤ b ∧ b < S.L.length then (S.blk b.toNat).erased else 0
theorem next_nil (b : Int) (w : World) : Calls Try.prog 27 #[.pointer none, .int .i64 b] w fun e w' => e = .returned (.int .i64 0) ∧ w = w' := by
  go_enter Try.func27, Try.ntmps27
  go_wp2_with fail
  refine (at_nil b w).mono ?_
  rintro e w' ⟨rfl, rfl⟩
  go_wp2_with fail
  go_ret
  exact ⟨rfl, rfl⟩
theorem erases_nil (b : Int) (w : World) : Calls Try.prog 28 #[.pointer none, .int .i64 b] w fun e w' => e = .returned (.int .i64 0) ∧ w = w' := by
  go_enter Try.func28, Try.ntmps28
  go_wp2_with fail
  refine (at_nil b w).mono ?_
  rintro e w' ⟨rfl, rfl⟩
  go_wp2_with fail
  go_ret
  exact ⟨rfl, rfl⟩
theorem next_any (p q B : Nat) (G : Nat → Nat) (S : ChipM) (b : Int) (w : World) (h : NandAt w p q B G S) :
    Calls Try.prog 27 #[.pointer (some ⟨p, 0, none⟩), .int .i64 b] w fun e w' => e = .returned (.int .i64 (nextZ S b)) ∧ w = w' := by
  by_cases hb : 0 ≤ b ∧ b < S.L.length
  · have HE := hide (show (S.blk b.toNat).next = nextZ S b by unfold nextZ; rw [if_pos hb])
    obtain ⟨k, rfl⟩ : ∃ k : Nat, (k : Int) = b := ⟨b.toNat, by omega⟩
    rw [Int.toNat_natCast] at HE
    have hk : k < S.L.length := by omega
    have HA := hide (at_yes p q B G S k hk w h)
    have d1 : w.cell? ⟨q, k * 6 + 1, none⟩ = some (.int .i64 (S.blk k).next) := h.slot k hk 1 (by decide)
    clear h hb
    go_enter Try.func27, Try.ntmps27
    go_wp2_with fail
    refine HA.out.mono ?_
    rintro e w' ⟨rfl, rfl⟩
    go_wp2_with fail
    go_ret
    exact ⟨ret_int HE.out, rfl⟩
  · have HE := hide (show 0 = nextZ S b by unfold nextZ; rw [if_neg hb])
    have HA := hide (at_no p q B G S b (by omega) w h)
    clear h hb
    go_enter Try.func27, Try.ntmps27
    go_wp2_with fail
    refine HA.out.mono ?_
    rintro e w' ⟨rfl, rfl⟩
    go_wp2_with fail
    go_ret
    exact ⟨ret_int HE.out, rfl⟩
theorem erases_any (p q B : Nat) (G : Nat → Nat) (S : ChipM) (b : Int) (w : World) (h : NandAt w p q B G S) :
    Calls Try.prog 28 #[.pointer (some ⟨p, 0, none⟩), .int .i64 b] w fun e w' => e = .returned (.int .i64 (erasesZ S b)) ∧ w = w' := by
  by_cases hb : 0 ≤ b ∧ b < S.L.length
  · have HE := hide (show (S.blk b.toNat).erased = erasesZ S b by unfold erasesZ; rw [if_pos hb])
    obtain ⟨k, rfl⟩ : ∃ k : Nat, (k : Int) = b := ⟨b.toNat, by omega⟩
    rw [Int.toNat_natCast] at HE
    have hk : k < S.L.length := by omega
    have HA := hide (at_yes p q B G S k hk w h)
    have d2 : w.cell? ⟨q, k * 6 + 2, none⟩ = some (.int .i64 (S.blk k).erased) := h.slot k hk 2 (by decide)
    clear h hb
    go_enter Try.func28, Try.ntmps28
    go_wp2_with fail
    refine HA.out.mono ?_
    rintro e w' ⟨rfl, rfl⟩
    go_wp2_with fail
    go_ret
    exact ⟨ret_int HE.out, rfl⟩
  · have HE := hide (show 0 = erasesZ S b by unfold erasesZ; rw [if_neg hb])
    have HA := hide (at_no p q B G S b (by omega) w h)
    clear h hb
    go_enter Try.func28, Try.ntmps28
    go_wp2_with fail
    refine HA.out.mono ?_
    rintro e w' ⟨rfl, rfl⟩
    go_wp2_with fail
    go_ret
    exact ⟨ret_int HE.out, rfl⟩
theorem off_nil (w : World) : Calls Try.prog 29 #[.pointer none] w fun e w' => e = .returned (.bool false) ∧ w = w' := by
  go_enter Try.func29, Try.ntmps29
  go_wp2_with fail
  go_ret
  exact ⟨rfl, rfl⟩
theorem off_any (p q B : Nat) (G : Nat → Nat) (S : ChipM) (w : World) (h : NandAt w p q B G S) :
    Calls Try.prog 29 #[.pointer (some ⟨p, 0, none⟩)] w fun e w' => e = .returned (.bool S.off) ∧ w = w' := by
  have c11 : w.cell? ⟨p, 11, none⟩ = some (.bool S.off) := h.cell 11
  clear h
  go_enter Try.func29, Try.ntmps29
  go_wp2_with fail
  go_ret
  exact ⟨rfl, rfl⟩
theorem sins_nil (w : World) : Calls Try.prog 30 #[.pointer none] w fun e w' => e = .returned (.int .i64 0) ∧ w = w' := by
  go_enter Try.func30, Try.ntmps30
  go_wp2_with fail
  go_ret
  exact ⟨rfl, rfl⟩
theorem sins_any (p q B : Nat) (G : Nat → Nat) (S : ChipM) (w : World) (h : NandAt w p q B G S) :
    Calls Try.prog 30 #[.pointer (some ⟨p, 0, none⟩)] w fun e w' => e = .returned (.int .i64 S.sins) ∧ w = w' := by
  have c8 : w.cell? ⟨p, 8, none⟩ = some (.int .i64 S.sins) := h.cell 8
  clear h
  go_enter Try.func30, Try.ntmps30
  go_wp2_with fail
  go_ret
  exact ⟨rfl, rfl⟩
theorem count_nil (w : World) : Calls Try.prog 26 #[.pointer none] w fun e w' => e = .returned (.tuple #[.int .i64 0, .int .i64 0]) ∧ w = w' := by
  go_enter Try.func26, Try.ntmps26
  go_wp2_with fail
  go_ret2
  exact ⟨rfl, rfl⟩
theorem count_any (p q B : Nat) (G : Nat → Nat) (S : ChipM) (w : World) (h : NandAt w p q B G S) :
    Calls Try.prog 26 #[.pointer (some ⟨p, 0, none⟩)] w fun e w' => e = .returned (.tuple #[.int .i64 S.progs, .int .i64 S.eras]) ∧ Below w.heap.size w w' := by
  have c6 : w.cell? ⟨p, 6, none⟩ = some (.int .i64 S.progs) := h.cell 6
  have c7 : w.cell? ⟨p, 7, none⟩ = some (.int .i64 S.eras) := h.cell 7
  clear h
  go_enter Try.func26, Try.ntmps26
  go_wp2_with fail
  go_quiet (fail)
  go_wp2_with fail
  go_ret2
  exact ⟨rfl, below_drewN (Below.refl _ _) _⟩
theorem wreck_nil (b : Int) (w : World) : Calls Try.prog 18 #[.pointer none, .int .i64 b] w fun e w' => e = .returned (.tuple #[]) ∧ w = w' := by
  go_enter Try.func18, Try.ntmps18
  go_wp2_with fail
  refine (at_nil b w).mono ?_
  rintro e w' ⟨rfl, rfl⟩
  go_wp2_with fail
  go_end0
  exact ⟨rfl, rfl⟩
def wreckS (S : ChipM) (b : Int) : ChipM := if 0 ≤ b ∧ b < S.L.length then S.put b.toNat { S.blk b.toNat with weak := true } else S
theorem wreck_any (p q B : Nat) (G : Nat → Nat) (S : ChipM) (b : Int) (w : World) (h : NandAt w p q B G S) :
    Calls Try.prog 18 #[.pointer (some ⟨p, 0, none⟩), .int .i64 b] w (NandIs p q B G (wreckS S b) (.tuple #[]) w) := by
  by_cases hb : 0 ≤ b ∧ b < S.L.length
  · have hs : wreckS S b = S.put b.toNat { S.blk b.toNat with weak := true } := by unfold wreckS; rw [if_pos hb]
    rw [hs]
    obtain ⟨k, rfl⟩ : ∃ k : Nat, (k : Int) = b := ⟨b.toNat, by omega⟩
    rw [Int.toNat_natCast] at *
    have hk : k < S.L.length := by omega
    have HA := hide (at_yes p q B G S k hk w h)
    have HS := hide (h.setBlk k hk 4 (by decide) (.bool true) { S.blk k with weak := true } rfl rfl)
    have HT := hide (h.turnBlk (k * 6 + 4) (.bool true))
    have d4 : w.cell? ⟨q, k * 6 + 4, none⟩ = some (.bool (S.blk k).weak) := h.slot k hk 4 (by decide)
    have f4 := h.row.free (k * 6 + 4)
    clear h hb hs
    go_enter Try.func18, Try.ntmps18
    go_wp2_with fail
    refine HA.out.mono ?_
    rintro e w' ⟨rfl, rfl⟩
    go_wp2_with fail
    go_end0
    exact ⟨rfl, HS.out, HT.out⟩
  · have hs : wreckS S b = S := by unfold wreckS; rw [if_neg hb]
    rw [hs]
    have HA := hide (at_no p q B G S b (by omega) w h)
    have HW := hide h
    clear h hb hs
    go_enter Try.func18, Try.ntmps18
    go_wp2_with fail
    refine HA.out.mono ?_
    rintro e w' ⟨rfl, rfl⟩
    go_wp2_with fail
    go_end0
    exact ⟨rfl, HW.out, Turn.refl _ _⟩
theorem fuse_nil (n : Int) (t : ByteArray) (w : World) : Calls Try.prog 19 #[.pointer none, .int .i64 n, .string t] w fun e w' => e = .returned (.tuple #[]) ∧ w = w' := by
  go_enter Try.func19, Try.ntmps19
  go_wp2_with fail
  go_end0
  exact ⟨rfl, rfl⟩
theorem fuse_any (p q B : Nat) (G : Nat → Nat) (S : ChipM) (n : Int) (t : ByteArray) (w : World) (h : NandAt w p q B G S) :
    Calls Try.prog 19 #[.pointer (some ⟨p, 0, none⟩), .int .i64 n, .string t] w (NandIs p q B G { S with fuse := max 0 n, torn := t } (.tuple #[]) w) := by
  obtain ⟨m, hm⟩ : ∃ m, max 0 n = m := ⟨_, rfl⟩
  have h1 : (if n < 0 then 0 else n) = m := by split <;> omega
  have h2 : max n 0 = m := by omega
  have h3 : (if 0 ≤ n then n else 0) = m := by split <;> omega
  have h4 : (if 0 < n then n else 0) = m := by split <;> omega
  have h5 : (if n ≤ 0 then 0 else n) = m := by split <;> omega
  rw [hm]
  have c9 : w.cell? ⟨p, 9, none⟩ = some (.int .i64 S.fuse) := h.cell 9
  have c10 : w.cell? ⟨p, 10, none⟩ = some (.string S.torn) := h.cell 10
  have f9 := h.free 9
  have f10 := h.free 10
  have hs1 := h.setHead 9 (.int .i64 m) { S with fuse := m } rfl rfl rfl
  have HS := hide (hs1.setHead 10 (.string t) { S with fuse := m, torn := t } rfl rfl rfl)
  have HT := hide ((h.turnHead 9 (.int .i64 m)).trans (hs1.turnHead 10 (.string t)))
  clear h hm hs1
  go_enter Try.func19, Try.ntmps19
  go_wp2_with fail
  go_end0
  exact ⟨rfl, HS.out, HT.out⟩
end Go.Proofs.Ythippbckjldijaa
