/-
  Layer 5, the program's calls, first part: at, ask, Read, and what is told of a chip.
-/
import Derived.Test.YthippbckjldijaaMNand
--import Derived.Test.Zdbg
namespace Go.Proofs.Ythippbckjldijaa
set_option linter.unusedSimpArgs false
set_option linter.unusedVariables false
open Go.RowKit Go.WideShapes Go.ChangeShapes Go.ChangeAt

theorem at_nil (i : Int) (w : World) : Calls Try.prog 35 #[.pointer none, .int .i64 i] w fun e w' => e = .returned (.pointer none) ∧ w = w' := by
  go_enter Try.func35, Try.ntmps35
  go_wp2
  go_ret
  exact ⟨rfl, rfl⟩
theorem at_no (p q B : Nat) (G : Nat → Nat) (S : ChipM) (i : Int) (hi : i < 0 ∨ (S.L.length : Int) ≤ i) (w : World) (h : NandAt w p q B G S) :
    Calls Try.prog 35 #[.pointer (some ⟨p, 0, none⟩), .int .i64 i] w fun e w' => e = .returned (.pointer none) ∧ w = w' := by
  have c5 : w.cell? ⟨p, 5, none⟩ = some (.slice (some ⟨q, 0, none⟩) S.L.length S.L.length) := h.cell 5
  by_cases h0 : i < 0
  · go_enter Try.func35, Try.ntmps35
    go_wp2
    go_ret
    exact ⟨rfl, rfl⟩
  · have h1 : (S.L.length : Int) ≤ i := by omega
    clear hi
    go_enter Try.func35, Try.ntmps35
    go_wp2
    go_ret
    exact ⟨rfl, rfl⟩
theorem at_yes (p q B : Nat) (G : Nat → Nat) (S : ChipM) (k : Nat) (hk : k < S.L.length) (w : World) (h : NandAt w p q B G S) :
    Calls Try.prog 35 #[.pointer (some ⟨p, 0, none⟩), .int .i64 (k : Int)] w fun e w' => e = .returned (.pointer (some ⟨q, k * 6, none⟩)) ∧ w = w' := by
  have c5 : w.cell? ⟨p, 5, none⟩ = some (.slice (some ⟨q, 0, none⟩) S.L.length S.L.length) := h.cell 5
  have h1 : ¬ (k : Int) < 0 := by omega
  have h2 : ¬ (S.L.length : Int) ≤ (k : Int) := by omega
  clear h
  go_enter Try.func35, Try.ntmps35
  go_wp2
  go_ret
  exact ⟨rfl, rfl⟩
theorem ask_nil (b i : Int) (w : World) : Calls Try.prog 37 #[.pointer none, .int .i64 b, .int .i64 i] w fun e w' => e = .returned (.int .i64 1) ∧ w = w' := by
  go_enter Try.func37, Try.ntmps37
  go_wp2
  go_ret
  exact ⟨rfl, rfl⟩
theorem ask_any (p q B : Nat) (G : Nat → Nat) (S : ChipM) (b i : Int) (w : World) (h : NandAt w p q B G S) :
    Calls Try.prog 37 #[.pointer (some ⟨p, 0, none⟩), .int .i64 b, .int .i64 i] w fun e w' => e = .returned (.int .i64 (askE S b i)) ∧ w = w' := by
  have c1 : w.cell? ⟨p, 1, none⟩ = some (.int .i64 (S.pgs : Int)) := h.cell 1
  have c11 : w.cell? ⟨p, 11, none⟩ = some (.bool S.off) := h.cell 11
  obtain ⟨ae, hae⟩ : ∃ ae, askE S b i = ae := ⟨_, rfl⟩
  rw [hae]
  unfold askE at hae
  have HE0 := hide hae
  clear hae
  cases ho : S.off with
  | true =>
    rw [ho] at c11
    have HE := hide (show (9 : Int) = ae by rw [← HE0.out, ho, if_pos rfl])
    clear h HE0
    go_enter Try.func37, Try.ntmps37
    go_wp2_with fail
    go_ret
    exact ⟨ret_int HE.out, rfl⟩
  | false =>
    rw [ho] at c11
    have HW := hide h
    clear h
    by_cases hb : 0 ≤ b ∧ b < S.L.length
    · obtain ⟨k, rfl⟩ : ∃ k : Nat, (k : Int) = b := ⟨b.toNat, by omega⟩
      have HA := hide (at_yes p q B G S k (by omega) w HW.out)
      by_cases hi : 0 ≤ i ∧ i < S.pgs
      · have HE := hide (show (0 : Int) = ae by rw [← HE0.out, ho, if_neg (by decide), if_pos ⟨hb.1, hb.2, hi.1, hi.2⟩])
        have g1 : ¬ i < 0 := by omega
        have g2 : ¬ (S.pgs : Int) ≤ i := by omega
        clear hb hi
        go_enter Try.func37, Try.ntmps37
        go_wp2_with fail
        refine HA.out.mono ?_
        rintro e w' ⟨rfl, rfl⟩
        go_wp2_with fail
        go_ret
        exact ⟨ret_int HE.out, rfl⟩
      · have HE := hide (show (3 : Int) = ae by rw [← HE0.out, ho, if_neg (by decide), if_neg (fun h => hi h.2.2)])
        by_cases g1 : i < 0
        · clear hb hi
          go_enter Try.func37, Try.ntmps37
          go_wp2_with fail
          refine HA.out.mono ?_
          rintro e w' ⟨rfl, rfl⟩
          go_wp2_with fail
          go_ret
          exact ⟨ret_int HE.out, rfl⟩
        · have g2 : (S.pgs : Int) ≤ i := by omega
          clear hb hi
          go_enter Try.func37, Try.ntmps37
          go_wp2_with fail
          refine HA.out.mono ?_
          rintro e w' ⟨rfl, rfl⟩
          go_wp2_with fail
          go_ret
          exact ⟨ret_int HE.out, rfl⟩
    · have HA := hide (at_no p q B G S b (by omega) w HW.out)
      have HE := hide (show (3 : Int) = ae by rw [← HE0.out, ho, if_neg (by decide), if_neg (fun h => hb ⟨h.1, h.2.1⟩)])
      clear hb
      go_enter Try.func37, Try.ntmps37
      go_wp2_with fail
      refine HA.out.mono ?_
      rintro e w' ⟨rfl, rfl⟩
      go_wp2_with fail
      go_ret
      exact ⟨ret_int HE.out, rfl⟩
theorem askE_in {S : ChipM} {b i : Int} (h : askE S b i = 0) : S.off = false ∧ 0 ≤ b ∧ b < S.L.length ∧ 0 ≤ i ∧ i < S.pgs := by
  unfold askE at h
  cases ho : S.off with
  | true => rw [ho, if_pos rfl] at h; omega
  | false =>
    rw [ho, if_neg (by decide)] at h
    split at h
    · exact ⟨rfl, by assumption⟩
    · omega
theorem askE_yes {S : ChipM} {k i : Nat} (ho : S.off = false) (hk : k < S.L.length) (hi : i < S.pgs) : askE S (k : Int) (i : Int) = 0 := by
  unfold askE
  rw [ho, if_neg (by decide), if_pos ⟨by omega, by omega, by omega, by omega⟩]
/-- Read's answer -/
def readP (S : ChipM) (b i : Int) : Pg := if askE S b i = 0 then (S.blk b.toNat).pages.getD i.toNat pg0 else pg0
theorem ret_ssi {a a' b b' : ByteArray} {c c' : Int} (h1 : a' = a) (h2 : b' = b) (h3 : c' = c) : Ending.returned (.tuple #[.string a, .string b, .int .i64 c]) = .returned (.tuple #[.string a', .string b', .int .i64 c']) := by rw [h1, h2, h3]
theorem read_nil (b i : Int) (w : World) : Calls Try.prog 22 #[.pointer none, .int .i64 b, .int .i64 i] w fun e w' => e = .returned (.tuple #[.string ⟨#[]⟩, .string ⟨#[]⟩, .int .i64 1]) ∧ w = w' := by
  have HA := hide (ask_nil b i w)
  go_enter Try.func22, Try.ntmps22
  go_wp2_with fail
  refine HA.out.mono ?_
  rintro e w' ⟨rfl, rfl⟩
  go_wp2_with fail
  go_ret3
  exact ⟨rfl, rfl⟩
set_option maxHeartbeats 400000 in
theorem read_any (p q B : Nat) (G : Nat → Nat) (S : ChipM) (b i : Int) (w : World) (h : NandAt w p q B G S) :
    Calls Try.prog 22 #[.pointer (some ⟨p, 0, none⟩), .int .i64 b, .int .i64 i] w fun e w' => e = .returned (.tuple #[.string (readP S b i).1, .string (readP S b i).2, .int .i64 (askE S b i)]) ∧ Below w.heap.size w w' := by
  have HA := hide (ask_any p q B G S b i w h)
  by_cases ha : askE S b i = 0
  · obtain ⟨ho, hb0, hb1, hi0, hi1⟩ := askE_in ha
    have HP := hide (show (S.blk b.toNat).pages.getD i.toNat pg0 = readP S b i by unfold readP; rw [if_pos ha])
    obtain ⟨k, rfl⟩ : ∃ k : Nat, (k : Int) = b := ⟨b.toNat, by omega⟩
    obtain ⟨j, rfl⟩ : ∃ j : Nat, (j : Int) = i := ⟨i.toNat, by omega⟩
    rw [Int.toNat_natCast, Int.toNat_natCast] at HP
    have hk : k < S.L.length := by omega
    have hj : j < S.pgs := by omega
    have c5 : w.cell? ⟨p, 5, none⟩ = some (.slice (some ⟨q, 0, none⟩) S.L.length S.L.length) := h.cell 5
    have d0 : w.cell? ⟨q, k * 6, none⟩ = some (.slice (some ⟨G k, 0, none⟩) S.pgs S.pgs) := by
      have := h.slot k hk 0 (by decide)
      rw [Nat.add_zero] at this
      rw [this, ← h.len k hk]; rfl
    have e0 := h.leaf k hk j hj 0 (by decide)
    have e1 := h.leaf k hk j hj 1 (by decide)
    generalize (S.blk k).pages.getD j pg0 = x at *
    obtain ⟨x1, x2⟩ := x
    simp only [pgC, List.getElem?_cons_zero, List.getElem?_cons_succ, Nat.add_zero] at e0 e1
    rw [ha] at HA ⊢
    have HP1 := hide (congrArg Prod.fst HP.out)
    have HP2 := hide (congrArg Prod.snd HP.out)
    dsimp only at HP1 HP2
    clear HP ha h ho
    go_enter Try.func22, Try.ntmps22
    go_wp2_with fail
    refine HA.out.mono ?_
    rintro e w' ⟨rfl, rfl⟩
    go_wp2_with fail
    go_quiet (fail)
    go_wp2_with fail
    go_ret3
    exact ⟨ret_ssi HP1.out.symm HP2.out.symm rfl, below_drewN ((Below.refl _ _).alloc (Nat.le_refl _) _) _⟩
  · have HP := hide (show pg0 = readP S b i by unfold readP; rw [if_neg ha])
    have HP1 := hide (congrArg Prod.fst HP.out)
    have HP2 := hide (congrArg Prod.snd HP.out)
    dsimp only [pg0] at HP1 HP2
    clear HP h
    generalize askE S b i = ae at *
    go_enter Try.func22, Try.ntmps22
    go_wp2_with fail
    refine HA.out.mono ?_
    rintro e w' ⟨rfl, rfl⟩
    go_wp2_with fail
    go_ret3
    exact ⟨ret_ssi HP1.out.symm HP2.out.symm rfl, Below.refl _ _⟩
end Go.Proofs.Ythippbckjldijaa
